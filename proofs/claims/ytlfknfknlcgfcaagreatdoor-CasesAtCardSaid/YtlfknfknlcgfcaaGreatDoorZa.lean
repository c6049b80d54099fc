/- Choices of a world's questions: whether they are choices; what the program looks at first. -/
import Derived.Test.YtlfknfknlcgfcaaGreatDoorY1
namespace Go.Proofs.YtlfknfknlcgfcaaGreatDoor
open Go Go.Em
set_option maxRecDepth 100000
def okCh (p : Qst × Int) : Bool := inR p.2 0 ((p.1.ch.length : Int) - 1)
def chosenF (w : Wld) (cs : List Int) : Bool := decide (cs.length = w.qs.length) && (w.qs.zip cs).all okCh
theorem zip_take {w : Wld} {cs : List Int} {i : Nat} (hi : i < w.qs.length) (hc : i < cs.length) : (w.qs.zip cs).take (i + 1) = (w.qs.zip cs).take i ++ [(w.qs[i], cs[i])] := by
  rw [List.take_add_one, List.getElem?_eq_getElem (by rw [List.length_zip]; omega)]
  simp
def ZaI (w : Wld) (cs : List Int) (k : Nat) (s : St) : Prop := ∃ (x : Env 42) (h : Heap) (kb i : Nat), s = ⟨x.l, h, []⟩ ∧ i + k = w.qs.length ∧ x.v 1 = intsD cs ∧ x.v 2 = .ptr kb 0 ∧ h.get kb = some (.cells 25 [clsD w.cl, qsD w.qs]) ∧ kb < h.next ∧ x.v 21 = qsD w.qs ∧ x.v 22 = D.int w.qs.length ∧ x.v 23 = D.int i ∧ ((w.qs.zip cs).take i).all okCh = true ∧ h.Fr
def ZaQ (w : Wld) (cs : List Int) (x : Ex) (s : St) : Prop := (x = .exit 0 ∧ ZaI w cs 0 s) ∨ (x = .ret ∧ (w.qs.zip cs).all okCh = false ∧ ∃ (x : Env 42) (h : Heap), s = ⟨x.l, h, []⟩ ∧ x.v 4 = .val (.slice none 0 0) ∧ x.v 5 = D.int 51)
set_option maxHeartbeats 4000000 in
theorem za_round (w : Wld) (cs : List Int) (hqs : w.qs.length ≤ 6) (hcs : cs.length = w.qs.length) (h60 : ∀ q ∈ w.qs, q.ch.length ≤ 60) : ∀ n, 10 ≤ n → ∀ k s, ZaI w cs k s → Res (k15l0.ev ⟨pg, 42, none⟩ (rc pg n) s) (Rnd (ZaI w cs) (ZaQ w cs) k) := by
  rintro n hn k s ⟨x, h, kb, i, rfl, hik, v1, v2, hg, hk, v21, v22, v23, hok, hf⟩
  simp only [qsD] at v21
  simp only [intsD] at v1
  by_cases hi : i < w.qs.length
  · obtain ⟨q, hl⟩ : ∃ q, w.qs[i] = q := ⟨_, rfl⟩
    have hic : i < cs.length := by omega
    obtain ⟨c, hc⟩ : ∃ c, cs[i] = c := ⟨_, rfl⟩
    have hmem : q ∈ w.qs := by rw [← hl]; exact List.getElem_mem hi
    have hq60 := h60 q hmem
    have w1 : IntKind.i64.wrap ((i : Int) + 1) = (i : Int) + 1 := wrap_i64 (by omega) (by omega)
    have w2 : IntKind.i64.wrap ((q.ch.length : Int) - 1) = (q.ch.length : Int) - 1 := wrap_i64 (by omega) (by omega)
    have hfr : ∀ j, h.raw (h.next + j) = none := fun j => hf _ (by omega)
    have ne1 : ∀ j, (kb = h.next + j) = False := fun j => by simp; omega
    have s19 : pg.sh 58 = false := rfl
    have htk := zip_take (w := w) (cs := cs) hi hic
    rw [hl, hc] at htk
    have hzm : (q, c) ∈ w.qs.zip cs := by rw [← hl, ← hc, List.mem_iff_getElem]; exact ⟨i, by rw [List.length_zip]; omega, by simp⟩
    have hpure : pureCall (rc pg n) 58 [D.int c, D.int 0, D.int ((q.ch.length : Int) - 1)] = some (.ret (D.bool (inR c 0 ((q.ch.length : Int) - 1)))) := by
      obtain ⟨m, rfl, e⟩ := body (pg := pg) (f := 58) (args := [D.int c, D.int 0, D.int ((q.ch.length : Int) - 1)]) (show 0 < n by omega) rfl rfl
      rw [e, inR_eq]
      by_cases h1 : 0 ≤ c <;> simp [k58, Env.v_ini, h1]
    cases hb : inR c 0 ((q.ch.length : Int) - 1) with
    | true =>
      rw [hb] at hpure
      simp [k15l0, v1, v21, v22, v23, hi, hic, hl, hc, qD, qC, chD, D.cells, D.one, hfr, Nat.add_assoc, w1, w2, dcore_f, s19, hpure]
      refine ⟨k - 1, by omega, _, _, kb, i + 1, rfl, by omega, by simp [v1, intsD], by simp [v2], by simp [ne1, hg], by simp; omega, by simp [v21, qsD], by simp [v22], by simp, ?_, ?_⟩
      · rw [htk, List.all_append, hok]
        simp [okCh, hb]
      · repeat' first | exact hf | apply Heap.Fr.bump | apply Heap.Fr.set
        all_goals (simp <;> omega)
    | false =>
      rw [hb] at hpure
      simp [k15l0, v1, v21, v22, v23, hi, hic, hl, hc, qD, qC, chD, D.cells, D.one, hfr, Nat.add_assoc, w2, dcore_f, s19, hpure]
      refine .inr ⟨rfl, ?_, _, _, rfl, by simp, by simp⟩
      rw [List.all_eq_false]
      exact ⟨_, hzm, by simp [okCh, hb]⟩
  · simp [k15l0, v22, v23, hi]
    exact .inl ⟨rfl, _, _, kb, i, rfl, by omega, by simp [v1, intsD], by simp [v2], by simp [hg], by simp; omega, by simp [v21, qsD], by simp [v22], by simp [v23], hok, hf.bump _⟩
end Go.Proofs.YtlfknfknlcgfcaaGreatDoor
/- Whether choices are choices of all questions: by the document. -/
namespace Go.Proofs.YtlfknfknlcgfcaaGreatDoor
open Go Go.Em
set_option maxRecDepth 100000
def ZbI (w : Wld) (cs : List Int) (k : Nat) (s : St) : Prop := ∃ (x : Env 34) (h : Heap) (kb i : Nat), s = ⟨x.l, h, []⟩ ∧ i + k = cs.length ∧ x.v 2 = .ptr kb 0 ∧ h.get kb = some (.cells 25 [clsD w.cl, qsD w.qs]) ∧ kb < h.next ∧ x.v 13 = intsD cs ∧ x.v 14 = D.int cs.length ∧ x.v 15 = D.int i ∧ ((w.qs.zip cs).take i).all okCh = true ∧ h.Fr
def ZbQ (w : Wld) (cs : List Int) (x : Ex) (s : St) : Prop := (x = .exit 0 ∧ ZbI w cs 0 s) ∨ (x = .ret ∧ (w.qs.zip cs).all okCh = false ∧ ∃ (x : Env 34) (h : Heap), s = ⟨x.l, h, []⟩ ∧ x.v 4 = D.bool false)
set_option maxHeartbeats 4000000 in
theorem zb_round (w : Wld) (cs : List Int) (hqs : w.qs.length ≤ 6) (hcs : cs.length = w.qs.length) : ∀ n, 10 ≤ n → ∀ k s, ZbI w cs k s → Res (k61l0.ev ⟨pg, 34, none⟩ (rc pg n) s) (Rnd (ZbI w cs) (ZbQ w cs) k) := by
  rintro n hn k s ⟨x, h, kb, i, rfl, hik, v2, hg, hk, v13, v14, v15, hok, hf⟩
  simp only [clsD, qsD] at hg
  simp only [intsD] at v13
  by_cases hi : i < cs.length
  · have hiq : i < w.qs.length := by omega
    obtain ⟨q, hl⟩ : ∃ q, w.qs[i] = q := ⟨_, rfl⟩
    obtain ⟨c, hc⟩ : ∃ c, cs[i] = c := ⟨_, rfl⟩
    have hmem : q ∈ w.qs := by rw [← hl]; exact List.getElem_mem hiq
    have w1 : IntKind.i64.wrap ((i : Int) + 1) = (i : Int) + 1 := wrap_i64 (by omega) (by omega)
    have htk := zip_take (w := w) (cs := cs) hiq hi
    rw [hl, hc] at htk
    have hzm : (q, c) ∈ w.qs.zip cs := by rw [← hl, ← hc, List.mem_iff_getElem]; exact ⟨i, by rw [List.length_zip]; omega, by simp⟩
    by_cases h1 : c < 0
    · simp [k61l0, v13, v14, v15, hi, hc, h1, D.cells]
      refine .inr ⟨rfl, ?_, _, _, rfl, by simp⟩
      rw [List.all_eq_false]
      exact ⟨_, hzm, by simp [okCh, inR_eq]; omega⟩
    · by_cases h2 : (q.ch.length : Int) ≤ c
      · simp [k61l0, v2, v13, v14, v15, hg, hi, hiq, hl, hc, h1, h2, D.cells, qD, qC, chD]
        refine .inr ⟨rfl, ?_, _, _, rfl, by simp⟩
        rw [List.all_eq_false]
        exact ⟨_, hzm, by simp [okCh, inR_eq]; omega⟩
      · simp [k61l0, v2, v13, v14, v15, hg, hi, hiq, hl, hc, h1, h2, D.cells, qD, qC, chD, w1]
        refine ⟨k - 1, by omega, _, _, kb, i + 1, rfl, by omega, by simp [v2], by simp [hg, clsD, qsD], by simp; omega, by simp [v13, intsD], by simp [v14], by simp, ?_, by repeat' first | exact hf | apply Heap.Fr.bump⟩
        rw [htk, List.all_append, hok]
        simp [okCh, inR_eq]; omega
  · simp [k61l0, v14, v15, hi]
    exact .inl ⟨rfl, _, _, kb, i, rfl, by omega, by simp [v2], by simp [hg, clsD, qsD], by simp; omega, by simp [v13, intsD], by simp [v14], by simp [v15], hok, hf.bump _⟩
set_option maxHeartbeats 4000000 in
theorem chosen_run (w : Wld) (cs : List Int) (hqs : w.qs.length ≤ 6) {n : Nat} (hn : 100 ≤ n) : pureCall (rc pg n) 61 [wD w, intsD cs] = some (.ret (D.bool (chosenF w cs))) := by
  obtain ⟨m, rfl, e⟩ := body (pg := pg) (f := 61) (args := [wD w, intsD cs]) (show 0 < n by omega) rfl rfl
  rw [e]
  unfold chosenF
  by_cases hl : cs.length = w.qs.length
  · obtain ⟨A, hA⟩ : ∃ A, A = (w.qs.zip cs).all okCh := ⟨_, rfl⟩
    rw [← hA, decide_eq_true hl]
    have hl' : ((cs.length : Int) != (w.qs.length : Int)) = false := by simp [hl]
    simp [-bne_iff_ne, -bne_eq_false_iff_eq, k61, Env.v_ini, wD, clsD, qsD, intsD, D.cells, D.one, hl', ev_loop]
    refine Res.endsAfter (lp_rule 10 (ZbI w cs) _ (zb_round w cs hqs hl) cs.length m _ (by omega) ⟨_, _, 2, 0, rfl, by omega, by simp, by simp [clsD, qsD], by simp, by simp [intsD], by simp, by simp, by simp, ?_⟩) ?_
    · repeat' first | exact Heap.Fr.empty | apply Heap.Fr.bump | apply Heap.Fr.set
      all_goals simp
    · rintro y s (⟨rfl, x, h, kb, i, rfl, hi, _, _, _, _, _, _, hok, _⟩ | ⟨rfl, hbad, x, h, rfl, v4⟩)
      · have hil : i = cs.length := by omega
        subst hil
        rw [List.take_of_length_le (by rw [List.length_zip]; omega)] at hok
        rw [hA, hok]; simp
      · rw [hA, hbad]; simp [v4]
  · have hl' : ((cs.length : Int) != (w.qs.length : Int)) = true := by simp; omega
    simp [-bne_iff_ne, -bne_eq_false_iff_eq, k61, Env.v_ini, wD, clsD, qsD, intsD, D.cells, D.one, hl', hl]
end Go.Proofs.YtlfknfknlcgfcaaGreatDoor
/- Claims at choices: which they are, and how many. -/
namespace Go.Proofs.YtlfknfknlcgfcaaGreatDoor
open Go Go.Em
set_option maxRecDepth 100000
def pickC (p : Qst × Int) : List Clm := p.1.ch.getD p.2.toNat []
def upF (w : Wld) (cs : List Int) : List Clm := w.cl ++ (w.qs.zip cs).flatMap pickC
def upN (w : Wld) (cs : List Int) (i : Nat) : List Clm := w.cl ++ ((w.qs.zip cs).take i).flatMap pickC
theorem up_zero (w : Wld) (cs : List Int) : upN w cs 0 = w.cl := by simp [upN]
theorem up_all {w : Wld} {cs : List Int} {i : Nat} (h : cs.length ≤ i) : upN w cs i = upF w cs := by
  unfold upN upF
  rw [List.take_of_length_le (by rw [List.length_zip]; omega)]
theorem up_succ {w : Wld} {cs : List Int} {i : Nat} (hi : i < w.qs.length) (hc : i < cs.length) : upN w cs (i + 1) = upN w cs i ++ pickC (w.qs[i], cs[i]) := by
  unfold upN
  rw [zip_take hi hc, List.flatMap_append, List.append_assoc]
  simp
theorem most_ge : ∀ (l : List (List Clm)) (m : Nat), m ≤ l.foldl (fun m c => max m c.length) m
  | [], _ => Nat.le_refl _
  | c :: l, m => Nat.le_trans (Nat.le_max_left _ _) (most_ge l (max m c.length))
theorem most_mem : ∀ (l : List (List Clm)) (m : Nat) (c : List Clm), c ∈ l → c.length ≤ l.foldl (fun m c => max m c.length) m
  | a :: l, m, c, h => by
    rw [List.foldl_cons]
    rcases List.mem_cons.1 h with rfl | h
    · exact Nat.le_trans (Nat.le_max_right _ _) (most_ge l _)
    · exact most_mem l _ c h
theorem getD_mem {α : Type} {l : List α} {i : Nat} {d : α} : l.getD i d ∈ l ∨ l.getD i d = d := by
  by_cases h : i < l.length
  · left; simp [h]
  · right; simp [List.getD, List.getElem?_eq_none (show l.length ≤ i by omega)]
theorem pick_le (p : Qst × Int) : (pickC p).length ≤ mostF p.1.ch := by
  unfold pickC mostF
  rcases getD_mem (l := p.1.ch) (i := p.2.toNat) (d := []) with h | h
  · exact most_mem _ _ _ h
  · rw [h]; exact Nat.zero_le _
theorem claims_ge : ∀ (l : List Qst) (m : Nat), m ≤ l.foldl (fun m q => m + mostF q.ch) m
  | [], _ => Nat.le_refl _
  | _ :: l, _ => Nat.le_trans (Nat.le_add_right _ _) (claims_ge l _)
theorem up_le' : ∀ (qs : List Qst) (cs : List Int) (i m : Nat), m + (((qs.zip cs).take i).flatMap pickC).length ≤ qs.foldl (fun m q => m + mostF q.ch) m
  | [], cs, i, m => by simp
  | q :: qs, [], _, m => by simp; exact claims_ge (q :: qs) m
  | q :: qs, c :: cs, 0, m => by simp; exact claims_ge (q :: qs) m
  | q :: qs, c :: cs, i + 1, m => by
    have h := up_le' qs cs i (m + mostF q.ch)
    have h2 := pick_le (q, c)
    rw [List.zip_cons_cons, List.take_succ_cons, List.flatMap_cons, List.length_append, List.foldl_cons]
    simp only at h2
    omega
theorem up_le (w : Wld) (cs : List Int) (i : Nat) : (upN w cs i).length ≤ claimsF w := by
  unfold upN claimsF
  rw [List.length_append]
  exact up_le' w.qs cs i w.cl.length
end Go.Proofs.YtlfknfknlcgfcaaGreatDoor
