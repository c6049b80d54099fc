/- Whether a world is valid: by the program. -/
import Derived.Test.YtlfknfknlcgfcaaGreatDoorY5
import Derived.Test.YtlfknfknlcgfcaaGreatDoorY5
import Derived.Test.YtlfknfknlcgfcaaGreatDoorY5
namespace Go.Proofs.YtlfknfknlcgfcaaGreatDoor
open Go Go.Em
set_option maxRecDepth 100000
structure WB (w : Wld) (M : Nat) : Prop where
  cl : w.cl.length ≤ M
  ch : ∀ q ∈ w.qs, ∀ l ∈ q.ch, l.length ≤ M
  M : M ≤ 1000000000000000
def Y7I (w : Wld) (k : Nat) (s : St) : Prop := ∃ (x : Env 66) (h : Heap) (kb i : Nat), s = ⟨x.l, h, []⟩ ∧ i + k = w.qs.length ∧ x.v 1 = .ptr kb 0 ∧ h.get kb = some (.cells 25 [clsD w.cl, qsD w.qs]) ∧ kb < h.next ∧ x.v 22 = qsD w.qs ∧ x.v 23 = D.int w.qs.length ∧ x.v 24 = D.int i ∧ (w.qs.take i).all okQ = true ∧ h.Fr
def Y7Q (w : Wld) (x : Ex) (s : St) : Prop := (x = .exit 0 ∧ Y7I w 0 s) ∨ (x = .ret ∧ w.qs.all okQ = false ∧ ∃ (x : Env 66) (h : Heap), s = ⟨x.l, h, []⟩ ∧ x.v 2 = D.int 50)
theorem allq_take {l : List Qst} {i : Nat} (hi : i < l.length) (h : (l.take i).all okQ = true) (hc : okQ l[i] = true) : (l.take (i + 1)).all okQ = true := by
  rw [List.take_add_one, List.getElem?_eq_getElem hi, List.all_append, h]
  simp [hc]
set_option maxHeartbeats 2000000 in
theorem y7_round (w : Wld) (M : Nat) (hw : WB w M) (hqs : w.qs.length ≤ 6) : ∀ n, M + 110 ≤ n → ∀ k s, Y7I w k s → Res (k57l0.ev ⟨pg, 66, none⟩ (rc pg n) s) (Rnd (Y7I w) (Y7Q w) k) := by
  rintro n hn k s ⟨x, h, kb, i, rfl, hik, v1, hg, hk, v22, v23, v24, hok, hf⟩
  simp only [qsD] at v22
  by_cases hi : i < w.qs.length
  · obtain ⟨q, hl⟩ : ∃ q, w.qs[i] = q := ⟨_, rfl⟩
    have hmem : q ∈ w.qs := by rw [← hl]; exact List.getElem_mem hi
    have w1 : IntKind.i64.wrap ((i : Int) + 1) = (i : Int) + 1 := wrap_i64 (by omega) (by omega)
    have hfr : ∀ j, h.raw (h.next + j) = none := fun j => hf _ (by omega)
    have ne1 : ∀ j, (kb = h.next + j) = False := fun j => by simp; omega
    have hck := fun h => call_of (h := h) (pg := pg) (f := 128) rfl (by simp [q_canon]) (@cq_run q M (hw.ch q hmem) (by have := hw.M; omega) n (by omega))
    simp only [qD, qC, chD] at hck
    cases hb : okQ q with
    | true =>
      have e0 : ckQ q = 0 := by unfold ckQ; rw [hb]; rfl
      rw [e0] at hck
      simp [k57l0, v22, v23, v24, hi, hl, qD, qC, chD, D.cells, D.one, hfr, Nat.add_assoc, w1, hck]
      refine ⟨k - 1, by omega, _, _, kb, i + 1, rfl, by omega, by simp [v1], by simp [ne1, hg], by simp; omega, by simp [v22, qsD], by simp [v23], by simp, allq_take hi hok (by rw [hl]; exact hb), ?_⟩
      repeat' first | exact hf | apply Heap.Fr.bump | apply Heap.Fr.set
      all_goals (simp <;> omega)
    | false =>
      have e0 : ckQ q = 50 := by unfold ckQ; rw [hb]; rfl
      rw [e0] at hck
      simp [k57l0, v22, v23, v24, hi, hl, qD, qC, chD, D.cells, D.one, hfr, Nat.add_assoc, hck]
      refine .inr ⟨rfl, ?_, _, _, rfl, by simp⟩
      rw [List.all_eq_false]
      exact ⟨q, hmem, by simp [hb]⟩
  · simp [k57l0, v23, v24, hi]
    exact .inl ⟨rfl, _, _, kb, i, rfl, by omega, by simp [v1], by simp [hg], by simp; omega, by simp [v22, qsD], by simp [v23], by simp [v24], hok, hf.bump _⟩
def Y8I (w : Wld) (k : Nat) (s : St) : Prop := ∃ (x : Env 66) (h : Heap) (kb i : Nat), s = ⟨x.l, h, []⟩ ∧ i + k = w.qs.length ∧ x.v 1 = .ptr kb 0 ∧ h.get kb = some (.cells 25 [clsD w.cl, qsD w.qs]) ∧ kb < h.next ∧ x.v 38 = qsD w.qs ∧ x.v 39 = D.int w.qs.length ∧ x.v 40 = D.int i ∧ x.v 7 = D.int (leavesF (w.qs.take i) : Nat) ∧ x.v 8 = D.int ((w.qs.take i).foldl (fun m q => m + mostF q.ch) w.cl.length : Nat) ∧ h.Fr
theorem sum_le (M : Nat) : ∀ (l : List Qst) (m : Nat), (∀ q ∈ l, mostF q.ch ≤ M) → l.foldl (fun m q => m + mostF q.ch) m ≤ m + l.length * M
  | [], m, _ => by simp
  | q :: l, m, h => by
    have := sum_le M l (m + mostF q.ch) (fun q hq => h q (List.mem_cons_of_mem _ hq))
    have h1 := h q List.mem_cons_self
    rw [List.foldl_cons, List.length_cons, Nat.succ_mul]
    omega
theorem sum_small {w : Wld} {M : Nat} (hw : WB w M) (hqs : w.qs.length ≤ 6) (i : Nat) : (w.qs.take i).foldl (fun m q => m + mostF q.ch) w.cl.length ≤ 7 * M := by
  have h1 := sum_le M (w.qs.take i) w.cl.length (fun q hq => most_le M q.ch (hw.ch q (List.mem_of_mem_take hq)))
  have h2 : (w.qs.take i).length ≤ 6 := by rw [List.length_take]; omega
  have h3 : (w.qs.take i).length * M ≤ 6 * M := Nat.mul_le_mul_right _ h2
  have := hw.cl
  omega
set_option maxHeartbeats 2000000 in
theorem y8_round (w : Wld) (M : Nat) (hw : WB w M) (hqs : w.qs.length ≤ 6) (h60 : ∀ q ∈ w.qs, q.ch.length ≤ 60) : ∀ n, 110 ≤ n → ∀ k s, Y8I w k s → Res (k57l1.ev ⟨pg, 66, none⟩ (rc pg n) s) (Rnd (Y8I w) (fun x s => x = .exit 2 ∧ Y8I w 0 s) k) := by
  rintro n hn k s ⟨x, h, kb, i, rfl, hik, v1, hg, hk, v22, v23, v24, v7, v8, hf⟩
  simp only [qsD] at v22
  by_cases hi : i < w.qs.length
  · obtain ⟨q, hl⟩ : ∃ q, w.qs[i] = q := ⟨_, rfl⟩
    have hmem : q ∈ w.qs := by rw [← hl]; exact List.getElem_mem hi
    have hq60 := h60 q hmem
    have w1 : IntKind.i64.wrap ((i : Int) + 1) = (i : Int) + 1 := wrap_i64 (by omega) (by omega)
    have hfr : ∀ j, h.raw (h.next + j) = none := fun j => hf _ (by omega)
    have ne1 : ∀ j, (kb = h.next + j) = False := fun j => by simp; omega
    have hck := fun h => call_of (h := h) (pg := pg) (f := 129) rfl (by simp [q_canon]) (@most_run q hq60 n (by omega))
    simp only [qD, qC, chD] at hck
    have htk : w.qs.take (i + 1) = w.qs.take i ++ [q] := by rw [List.take_add_one, List.getElem?_eq_getElem hi, hl]; rfl
    have hle := leaves_le (w.qs.take (i + 1)) (fun q hq => h60 q (List.mem_of_mem_take hq)) (by rw [List.length_take]; omega)
    have hsm := sum_small hw hqs (i + 1)
    have hMM := hw.M
    rw [htk, leaves_snoc] at hle
    rw [htk, List.foldl_append] at hsm
    simp only [List.foldl_cons, List.foldl_nil] at hsm
    obtain ⟨a, ha⟩ : ∃ a, a = leavesF (w.qs.take i) := ⟨_, rfl⟩
    obtain ⟨b, hb⟩ : ∃ b, b = (w.qs.take i).foldl (fun m q => m + mostF q.ch) w.cl.length := ⟨_, rfl⟩
    rw [← ha] at v7 hle
    rw [← hb] at v8 hsm
    have w2 : IntKind.i64.wrap ((a : Int) * q.ch.length) = ((a * q.ch.length : Nat) : Int) := by
      rw [← Int.natCast_mul]; exact wrap_i64 (by omega) (by omega)
    have w3 : IntKind.i64.wrap ((b : Int) + (mostF q.ch : Nat)) = ((b + mostF q.ch : Nat) : Int) := by
      rw [← Int.natCast_add]; exact wrap_i64 (by omega) (by omega)
    simp [k57l1, v7, v8, v22, v23, v24, hi, hl, qD, qC, chD, D.cells, D.one, hfr, Nat.add_assoc, w1, w2, w3, hck]
    refine ⟨k - 1, by omega, _, _, kb, i + 1, rfl, by omega, by simp [v1], by simp [ne1, hg], by simp; omega, by simp [v22, qsD], by simp [v23], by simp, by rw [htk, leaves_snoc, ← ha]; simp, by rw [htk, List.foldl_append, ← hb]; simp, ?_⟩
    repeat' first | exact hf | apply Heap.Fr.bump | apply Heap.Fr.set
    all_goals (simp <;> omega)
  · simp [k57l1, v23, v24, hi]
    exact ⟨_, _, kb, i, rfl, by omega, by simp [v1], by simp [hg], by simp; omega, by simp [v22, qsD], by simp [v23], by simp [v24], by simp [v7], by simp [v8], hf.bump _⟩
end Go.Proofs.YtlfknfknlcgfcaaGreatDoor
/- Whether a world is valid: by the program, the whole. -/
namespace Go.Proofs.YtlfknfknlcgfcaaGreatDoor
open Go Go.Em
set_option maxRecDepth 100000
theorem mk_cls {w : Wld} (h : chkF w.cl = 0) : ∀ c ∈ w.cl, mkOk c := fun c hc => ok_marks ((chk_ok h).2.1 c hc)
theorem mk_qs {w : Wld} (h : w.qs.all okQ = true) : ∀ q ∈ w.qs, ∀ l ∈ q.ch, ∀ c ∈ l, mkOk c := fun q hq l hl c hc => ok_marks (ok_b ((ok_q (List.all_eq_true.1 h q hq)).2.2 l hl c hc))
theorem len_qs {w : Wld} (h : w.qs.all okQ = true) : ∀ q ∈ w.qs, q.ch.length ≤ 60 := fun q hq => (ok_q (List.all_eq_true.1 h q hq)).2.1.2
set_option maxHeartbeats 4000000 in
theorem cw_run (w : Wld) (M : Nat) (hw : WB w M) {n : Nat} (hn : M + 1200 ≤ n) : pureCall (rc pg n) 57 [wD w] = some (.ret (D.int (chkW w))) := by
  obtain ⟨m, rfl, e⟩ := body (pg := pg) (f := 57) (args := [wD w]) (show 0 < n by omega) rfl rfl
  rw [e]
  have c22 := fun h => call_of (h := h) (pg := pg) (f := 127) rfl (cls_canon w.cl) (@chk_run w.cl m (by omega))
  simp only [clsD] at c22
  unfold chkW
  by_cases hz : chkF w.cl = 0
  · rw [if_neg (by simp [hz])]
    rw [hz] at c22
    by_cases h6 : 6 < w.qs.length
    · have h6' : (6 : Int) < w.qs.length := by omega
      rw [if_pos h6]
      simp [k57, Env.v_ini, wD, clsD, qsD, D.cells, D.one, c22, h6']
    · have h6' : ¬ (6 : Int) < w.qs.length := by omega
      rw [if_neg h6]
      obtain ⟨R, hR⟩ : ∃ R : Int, R = if w.qs.all okQ = true then (if 3000 < leavesF w.qs ∨ 400 < claimsF w ∨ 64 < (marksF (allF w)).length then 2 else 0) else 50 := ⟨_, rfl⟩
      rw [← hR]
      simp [k57, Env.v_ini, wD, clsD, qsD, D.cells, D.one, c22, h6', ev_loop]
      refine Res.endsAfter (lp_rule (M + 110) (Y7I w) _ (y7_round w M hw (by omega)) w.qs.length m _ (by omega) ⟨_, _, 1, 0, rfl, by omega, by simp, by simp [clsD, qsD], by simp, by simp [qsD], by simp, by simp, by simp, ?_⟩) ?_
      · repeat' first | exact Heap.Fr.empty | apply Heap.Fr.bump | apply Heap.Fr.set
        all_goals simp
      · rintro y s (⟨rfl, x, h, kb, i, rfl, hi, v1, hg, hk, v22, v23, v24, hok, hf⟩ | ⟨rfl, hbad, x, h, rfl, v2⟩)
        · have hil : i = w.qs.length := by omega
          subst hil
          rw [List.take_length] at hok
          rw [if_pos hok] at hR
          have h60 := len_qs hok
          simp only [clsD, qsD] at hg
          simp [v1, hg, ev_loop]
          refine Res.endsAfter (lp_rule 110 (Y8I w) _ (y8_round w M hw (by omega) h60) w.qs.length m _ (by omega) ⟨_, _, kb, 0, rfl, by omega, by simp [v1], by simp [hg, clsD, qsD], by simp; omega, by simp [qsD], by simp, by simp, by simp [leavesF], by simp, ?_⟩) ?_
          · repeat' first | exact hf | apply Heap.Fr.bump
          · rintro y s ⟨rfl, x, h, kb, i, rfl, hi, v1, hg, hk, v38, v39, v40, v7, v8, hf⟩
            have hil : i = w.qs.length := by omega
            subst hil
            rw [List.take_length] at v7 v8
            obtain ⟨a, ha⟩ : ∃ a, a = leavesF w.qs := ⟨_, rfl⟩
            obtain ⟨b, hb⟩ : ∃ b, b = claimsF w := ⟨_, rfl⟩
            rw [← ha] at v7
            have v8' : x.v 8 = D.int (b : Nat) := by rw [v8, hb]; rfl
            have c24 := fun h => call_of (h := h) (pg := pg) (f := 101) rfl (by simp [w_canon]) (@ow_run w M (by omega) h60 hw.cl hw.ch (by have := hw.M; omega) (mk_cls hz) (mk_qs hok) m (by omega))
            simp only [wD, clsD, qsD] at c24
            simp only [clsD, qsD] at hg
            rw [← ha, ← hb] at hR
            by_cases h1 : 3000 < a
            · have h1' : (3000 : Int) < a := by omega
              rw [hR, if_pos (.inl h1)]
              simp [v7, h1']
            · have h1' : ¬ (3000 : Int) < a := by omega
              by_cases h2 : 400 < b
              · have h2' : (400 : Int) < b := by omega
                rw [hR, if_pos (.inr (.inl h2))]
                simp [v7, v8', h1', h2']
              · have h2' : ¬ (400 : Int) < b := by omega
                by_cases h3 : 64 < (marksF (allF w)).length
                · have h3' : (64 : Int) < (marksF (allF w)).length := by omega
                  rw [hR, if_pos (.inr (.inr h3))]
                  simp [v1, v7, v8', h1', h2', hg, c24, h3']
                · have h3' : ¬ (64 : Int) < (marksF (allF w)).length := by omega
                  rw [hR, if_neg (by omega)]
                  simp [v1, v7, v8', h1', h2', hg, c24, h3']
        · rw [hR, if_neg (by rw [hbad]; simp)]
          simp [v2]
  · rw [if_pos hz]
    have hz' : (chkF w.cl == 0) = false := by simpa using hz
    simp [k57, Env.v_ini, wD, clsD, qsD, D.cells, D.one, c22, hz', bne]
end Go.Proofs.YtlfknfknlcgfcaaGreatDoor
/- Whether a world is valid: by the document. -/
namespace Go.Proofs.YtlfknfknlcgfcaaGreatDoor
open Go Go.Em
set_option maxRecDepth 100000
theorem Res.yd {L : Option (Ex × St)} {i1 i2 : Nat} {E F : St → Option (Ex × St)} {P Q : Ex → St → Prop} (h : Res L P) (hk : ∀ x s, P x s → Res (andThen (blockK i1 (andThen (blockK i2 (some (x, s))) E)) F) Q) : Res (andThen (blockK i1 (andThen (blockK i2 L) E)) F) Q := by
  obtain ⟨x, s, rfl, p⟩ := h; exact hk x s p
def Y5I (q : Qst) (x0 : Env 69) (g0 : Heap) (k : Nat) (s : St) : Prop := ∃ (x : Env 69) (h : Heap) (i : Nat), s = ⟨x.l, h, []⟩ ∧ i + k = q.ch.length ∧ (∀ j, j < 28 → j ≠ 8 → j ≠ 10 → x.v j = x0.v j) ∧ (∀ z, h.get z = g0.get z) ∧ g0.next ≤ h.next ∧ x.v 8 = D.int (mostF (q.ch.take i) : Nat) ∧ x.v 35 = chD q.ch ∧ x.v 36 = D.int q.ch.length ∧ x.v 37 = D.int i ∧ h.Fr
set_option maxHeartbeats 2000000 in
theorem y5_round (q : Qst) (x0 : Env 69) (g0 : Heap) (hlen : q.ch.length ≤ 60) : ∀ n, 2 ≤ n → ∀ k s, Y5I q x0 g0 k s → Res (k60l0.ev ⟨pg, 69, none⟩ (rc pg n) s) (Rnd (Y5I q x0 g0) (fun x s => x = .exit 2 ∧ Y5I q x0 g0 0 s) k) := by
  rintro n hn k s ⟨x, h, i, rfl, hik, vs, hg, hk, v3, v7, v8, v9, hf⟩
  simp only [chD] at v7
  by_cases hi : i < q.ch.length
  · obtain ⟨l, hl⟩ : ∃ l, q.ch[i] = l := ⟨_, rfl⟩
    have w1 : IntKind.i64.wrap ((i : Int) + 1) = (i : Int) + 1 := wrap_i64 (by omega) (by omega)
    have hsn : mostF (q.ch.take (i + 1)) = max (mostF (q.ch.take i)) l.length := by rw [List.take_add_one, List.getElem?_eq_getElem hi, hl]; exact most_snoc _ _
    obtain ⟨m, hm⟩ : ∃ m, m = mostF (q.ch.take i) := ⟨_, rfl⟩
    rw [← hm] at v3 hsn
    simp [k60l0, v3, v7, v8, v9, hi, hl, clsD, D.cells, w1]
    refine ⟨k - 1, by omega, _, _, i + 1, rfl, by omega, fun j h1 h2 h3 => ?_, fun z => by simp [hg], by simp; omega, ?_, by simp [v7, chD], by simp [v8], by simp, by repeat' first | exact hf | apply Heap.Fr.bump⟩
    · have ne : ∀ t, 28 ≤ t → (t = j) = False := fun t ht => by simp; omega
      simp [ne, Ne.symm h2, Ne.symm h3, vs j h1 h2 h3]
    · rw [hsn]
      simp
      try omega
  · simp [k60l0, v8, v9, hi]
    exact ⟨_, _, i, rfl, by omega, fun j h1 h2 h3 => by
      have ne : ∀ t, 28 ≤ t → (t = j) = False := fun t ht => by simp; omega
      simp [ne, vs j h1 h2 h3], fun z => by simp [hg], by simp; omega, by simp [v3], by simp [v7, chD], by simp [v8], by simp [v9], hf.bump _⟩
theorem min_mul (a n : Nat) (hn : 1 ≤ n) : min (min a 3001 * n) 3001 = min (a * n) 3001 := by
  by_cases h : a ≤ 3001
  · rw [Nat.min_eq_left h]
  · rw [Nat.min_eq_right (show 3001 ≤ a by omega)]
    have h1 : 3001 ≤ 3001 * n := Nat.le_mul_of_pos_right _ hn
    have h2 : 3001 * n ≤ a * n := Nat.mul_le_mul_right _ (by omega)
    rw [Nat.min_eq_right h1, Nat.min_eq_right (Nat.le_trans h1 h2)]
def Y4I (w : Wld) (k : Nat) (s : St) : Prop := ∃ (x : Env 69) (h : Heap) (kb i : Nat), s = ⟨x.l, h, []⟩ ∧ i + k = w.qs.length ∧ x.v 1 = .ptr kb 0 ∧ h.get kb = some (.cells 25 [clsD w.cl, qsD w.qs]) ∧ kb < h.next ∧ x.v 25 = qsD w.qs ∧ x.v 26 = D.int w.qs.length ∧ x.v 27 = D.int i ∧ (w.qs.take i).all okQ = true ∧ x.v 4 = D.int (min (leavesF (w.qs.take i)) 3001 : Nat) ∧ x.v 5 = D.int (min ((w.qs.take i).foldl (fun m q => m + mostF q.ch) w.cl.length) 401 : Nat) ∧ h.Fr
def Y4Q (w : Wld) (x : Ex) (s : St) : Prop := (x = .exit 0 ∧ Y4I w 0 s) ∨ (x = .ret ∧ w.qs.all okQ = false ∧ ∃ (x : Env 69) (h : Heap), s = ⟨x.l, h, []⟩ ∧ x.v 2 = D.int 50)
set_option maxHeartbeats 4000000 in
theorem y4_round (w : Wld) (M : Nat) (hw : WB w M) (hqs : w.qs.length ≤ 6) : ∀ n, M + 110 ≤ n → ∀ k s, Y4I w k s → Res (k60l1.ev ⟨pg, 69, none⟩ (rc pg n) s) (Rnd (Y4I w) (Y4Q w) k) := by
  rintro n hn k s ⟨x, h, kb, i, rfl, hik, v1, hg, hk, v22, v23, v24, hok, v4, v5, hf⟩
  simp only [qsD] at v22
  by_cases hi : i < w.qs.length
  · obtain ⟨q, hl⟩ : ∃ q, w.qs[i] = q := ⟨_, rfl⟩
    have hmem : q ∈ w.qs := by rw [← hl]; exact List.getElem_mem hi
    have w1 : IntKind.i64.wrap ((i : Int) + 1) = (i : Int) + 1 := wrap_i64 (by omega) (by omega)
    have hfr : ∀ j, h.raw (h.next + j) = none := fun j => hf _ (by omega)
    have ne1 : ∀ j, (kb = h.next + j) = False := fun j => by simp; omega
    have hck := fun h => call_of (h := h) (pg := pg) (f := 130) rfl (by simp [q_canon]) (@rcq_run q M (hw.ch q hmem) (by have := hw.M; omega) n (by omega))
    simp only [qD, qC, chD] at hck
    cases hb : okQ q with
    | false =>
      have e0 : ckQ q = 50 := by unfold ckQ; rw [hb]; rfl
      rw [e0] at hck
      simp [k60l1, v22, v23, v24, hi, hl, qD, qC, chD, D.cells, D.one, hfr, Nat.add_assoc, hck]
      refine .inr ⟨rfl, ?_, _, _, rfl, by simp⟩
      rw [List.all_eq_false]
      exact ⟨q, hmem, by simp [hb]⟩
    | true =>
      have e0 : ckQ q = 0 := by unfold ckQ; rw [hb]; rfl
      rw [e0] at hck
      obtain ⟨_, ⟨hq1, hq60⟩, _⟩ := ok_q hb
      simp [k60l1, v22, v23, v24, hi, hl, qD, qC, chD, D.cells, D.one, hfr, Nat.add_assoc, hck, ev_loop]
      refine Res.yd (lp_rule 2 (Y5I q _ _) _ (y5_round q _ _ hq60) q.ch.length n _ (by omega) ⟨_, _, 0, rfl, by omega, fun j _ _ _ => rfl, fun z => rfl, Nat.le_refl _, by simp [mostF], by simp [chD], by simp, by simp, ?_⟩) ?_
      · repeat' first | exact hf | apply Heap.Fr.bump | apply Heap.Fr.set
        all_goals (simp <;> omega)
      · rintro y s ⟨rfl, y, h1, i1, rfl, hi1, vs, hg1, hn1, y8, _, _, _, hf1⟩
        have i1l : i1 = q.ch.length := by omega
        subst i1l
        rw [List.take_length] at y8
        have y1 := vs 1 (by omega) (by omega) (by omega)
        have y4 := vs 4 (by omega) (by omega) (by omega)
        have y5 := vs 5 (by omega) (by omega) (by omega)
        have y7 := vs 7 (by omega) (by omega) (by omega)
        have y25 := vs 25 (by omega) (by omega) (by omega)
        have y26 := vs 26 (by omega) (by omega) (by omega)
        have y27 := vs 27 (by omega) (by omega) (by omega)
        have gq := hg1 (h.next + 76)
        have gk := hg1 kb
        simp [ne1, hg] at gk
        simp at gq
        obtain ⟨A, hA⟩ : ∃ A, A = min (leavesF (w.qs.take i)) 3001 := ⟨_, rfl⟩
        obtain ⟨B, hB⟩ : ∃ B, B = min ((w.qs.take i).foldl (fun m q => m + mostF q.ch) w.cl.length) 401 := ⟨_, rfl⟩
        have hA1 : A ≤ 3001 := by rw [hA]; exact Nat.min_le_right _ _
        have hB1 : B ≤ 401 := by rw [hB]; exact Nat.min_le_right _ _
        rw [← hA] at v4
        rw [← hB] at v5
        simp [v1, v4, v5, v22, v23, v24] at y1 y4 y5 y7 y25 y26 y27
        have htk : w.qs.take (i + 1) = w.qs.take i ++ [q] := by rw [List.take_add_one, List.getElem?_eq_getElem hi, hl]; rfl
        have hmm : mostF q.ch ≤ M := most_le M q.ch (hw.ch q hmem)
        have hMM := hw.M
        obtain ⟨P, hP⟩ : ∃ P, P = A * q.ch.length := ⟨_, rfl⟩
        have hP1 : P ≤ 3001 * 60 := by rw [hP]; exact Nat.mul_le_mul hA1 hq60
        have w2 : IntKind.i64.wrap ((A : Int) * q.ch.length) = (P : Int) := by
          rw [← Int.natCast_mul, ← hP]; exact wrap_i64 (by omega) (by omega)
        have w3 : IntKind.i64.wrap ((B : Int) + (mostF q.ch : Nat)) = ((B + mostF q.ch : Nat) : Int) := by
          rw [← Int.natCast_add]; exact wrap_i64 (by omega) (by omega)
        have e4 : min (leavesF (w.qs.take (i + 1))) 3001 = min P 3001 := by
          rw [htk, leaves_snoc, hP, hA, min_mul _ _ hq1]
        have e5 : min ((w.qs.take (i + 1)).foldl (fun m q => m + mostF q.ch) w.cl.length) 401 = min (B + mostF q.ch) 401 := by
          rw [htk, List.foldl_append, hB]
          simp only [List.foldl_cons, List.foldl_nil]
          omega
        simp [y4, y5, y7, y8, y27, gq, w1, w2, w3]
        refine ⟨k - 1, by omega, _, _, kb, i + 1, rfl, by omega, by simp [y1], by simp [gk], ?_, by simp [y25, qsD], by simp [y26], by simp, allq_take hi hok (by rw [hl]; exact hb), ?_, ?_, by repeat' first | exact hf1 | apply Heap.Fr.bump⟩
        · simp at hn1 ⊢
          omega
        · rw [e4]; simp; try omega
        · rw [e5]; simp; try omega
  · simp [k60l1, v23, v24, hi]
    exact .inl ⟨rfl, _, _, kb, i, rfl, by omega, by simp [v1], by simp [hg], by simp; omega, by simp [v22, qsD], by simp [v23], by simp [v24], hok, by simp [v4], by simp [v5], hf.bump _⟩
set_option maxHeartbeats 4000000 in
theorem rcw_run (w : Wld) (M : Nat) (hw : WB w M) {n : Nat} (hn : M + 5200 ≤ n) : pureCall (rc pg n) 60 [wD w] = some (.ret (D.int (chkW w))) := by
  obtain ⟨m, rfl, e⟩ := body (pg := pg) (f := 60) (args := [wD w]) (show 0 < n by omega) rfl rfl
  rw [e]
  have c22 := fun h => call_of (h := h) (pg := pg) (f := 122) rfl (cls_canon w.cl) (@rchk_run w.cl m (by omega))
  simp only [clsD] at c22
  unfold chkW
  by_cases hz : chkF w.cl = 0
  · rw [if_neg (by simp [hz])]
    rw [hz] at c22
    by_cases h6 : 6 < w.qs.length
    · have h6' : (6 : Int) < w.qs.length := by omega
      rw [if_pos h6]
      simp [k60, Env.v_ini, wD, clsD, qsD, D.cells, D.one, c22, h6']
    · have h6' : ¬ (6 : Int) < w.qs.length := by omega
      rw [if_neg h6]
      obtain ⟨R, hR⟩ : ∃ R : Int, R = if w.qs.all okQ = true then (if 3000 < leavesF w.qs ∨ 400 < claimsF w ∨ 64 < (marksF (allF w)).length then 2 else 0) else 50 := ⟨_, rfl⟩
      rw [← hR]
      have hc4 : w.cl.length ≤ 400 := (chk_ok hz).1
      simp [k60, Env.v_ini, wD, clsD, qsD, D.cells, D.one, c22, h6', ev_loop]
      refine Res.endsAfter (lp_rule (M + 110) (Y4I w) _ (y4_round w M hw (by omega)) w.qs.length m _ (by omega) ⟨_, _, 1, 0, rfl, by omega, by simp, by simp [clsD, qsD], by simp, by simp [qsD], by simp, by simp, by simp, by simp [leavesF], ?_, ?_⟩) ?_
      · simp
        try omega
      · repeat' first | exact Heap.Fr.empty | apply Heap.Fr.bump | apply Heap.Fr.set
        all_goals simp
      · rintro y s (⟨rfl, x, h, kb, i, rfl, hi, v1, hg, hk, v22, v23, v24, hok, v4, v5, hf⟩ | ⟨rfl, hbad, x, h, rfl, v2⟩)
        · have hil : i = w.qs.length := by omega
          subst hil
          rw [List.take_length] at hok v4 v5
          rw [if_pos hok] at hR
          have h60 := len_qs hok
          obtain ⟨a, ha⟩ : ∃ a, a = leavesF w.qs := ⟨_, rfl⟩
          obtain ⟨b, hb⟩ : ∃ b, b = claimsF w := ⟨_, rfl⟩
          have v5' : x.v 5 = D.int (min b 401 : Nat) := by rw [v5, hb]; rfl
          rw [← ha] at v4
          obtain ⟨a', ha'⟩ : ∃ a', a' = min a 3001 := ⟨_, rfl⟩
          obtain ⟨b', hb'⟩ : ∃ b', b' = min b 401 := ⟨_, rfl⟩
          rw [← ha'] at v4
          rw [← hb'] at v5'
          have c24 := fun h => call_of (h := h) (pg := pg) (f := 52) rfl (by simp [w_canon]) (@rms_world w M (by omega) h60 hw.cl hw.ch (by have := hw.M; omega) (mk_cls hz) (mk_qs hok) m (by omega))
          simp only [wD, clsD, qsD, intsD] at c24
          simp only [clsD, qsD] at hg
          rw [← ha, ← hb] at hR
          by_cases h1 : 3000 < a
          · have h1' : (3000 : Int) < a' := by omega
            rw [hR, if_pos (.inl h1)]
            simp [v4, h1']
          · have h1' : ¬ (3000 : Int) < a' := by omega
            by_cases h2 : 400 < b
            · have h2' : (400 : Int) < b' := by omega
              rw [hR, if_pos (.inr (.inl h2))]
              simp [v4, v5', h1', h2']
            · have h2' : ¬ (400 : Int) < b' := by omega
              by_cases h3 : 64 < (marksF (allF w)).length
              · have h3' : (64 : Int) < (marksF (allF w)).length := by omega
                rw [hR, if_pos (.inr (.inr h3))]
                simp [v1, v4, v5', h1', h2', hg, c24, h3']
              · have h3' : ¬ (64 : Int) < (marksF (allF w)).length := by omega
                rw [hR, if_neg (by omega)]
                simp [v1, v4, v5', h1', h2', hg, c24, h3']
        · rw [hR, if_neg (by rw [hbad]; simp)]
          simp [v2]
  · rw [if_pos hz]
    have hz' : (chkF w.cl == 0) = false := by simpa using hz
    simp [k60, Env.v_ini, wD, clsD, qsD, D.cells, D.one, c22, hz', bne]
end Go.Proofs.YtlfknfknlcgfcaaGreatDoor
