/- Readings of rows, by the document. -/
import Derived.Test.YthgnholbajpdgaaDoorRead
namespace Go.Proofs.YthgnholbajpdgaaDoor
open Go Go.Em
set_option maxRecDepth 100000
theorem block3 {o : Option (Ex × St)} {a b c : Nat} {k : St → Option (Ex × St)} {P Q : Ex → St → Prop} (h : Res o P) (hk : ∀ x s, P x s → Res (andThen (blockK a (blockK b (blockK c (some (x, s))))) k) Q) : Res (andThen (blockK a (blockK b (blockK c o))) k) Q := by
  obtain ⟨x, s, rfl, p⟩ := h; exact hk x s p
theorem rowN_eq (picks : List Int) (taken : Nat) (r : Rw) (hv : (natF r).valid = true) (hc : (natF r).choice = true) : (if picks = [] then 0 else picks.getD (taken % picks.length) 0) % ((natF r).hi - (natF r).lo + 1) = rowN picks taken r := by
  have := lo_hi r hv
  unfold rowN pickF
  rw [if_pos hc]
  by_cases hp : picks = []
  · simp [hp]
  · rw [if_neg hp, if_neg (by simp [hp]; omega)]
def RR (picks : List Int) (l : List Rw) (k : Nat) (s : St) : Prop := ∃ (x : Env 104) (h : Heap) (i taken : Nat) (d : D) (acc : List Int), s = ⟨x.l, h, []⟩ ∧ i + k = l.length ∧ x.v 0 = rowsD l ∧ x.v 1 = intsD picks ∧ x.v 11 = D.int i ∧ x.v 10 = D.int taken ∧ x.v 9 = d ∧
  Gl h d acc ∧ acc.length ≤ 9000 * i ∧ taken ≤ i ∧ readF picks 0 l = acc ++ readF picks taken (l.drop i) ∧ h.Fr ∧ 1 < h.next
set_option maxHeartbeats 8000000 in
theorem rread_round (picks : List Int) (l : List Rw) (hl : l.length ≤ 400) (hv : okAll l = true) : ∀ n, 2200 ≤ n → ∀ k s, RR picks l k s → Res (k49l1.ev ⟨pg, 104, none⟩ (rc pg n) s) (Rnd (RR picks l) (fun x s => x = .exit 0 ∧ RR picks l 0 s) k) := by
  rintro n hn k s ⟨x, h, i, taken, d, acc, rfl, hik, v0, v1, v11, v10, v9, hd, hacc, htk, hrd, hf, hn1⟩
  simp only [rowsD] at v0
  have hfr : ∀ j, h.raw (h.next + j) = none := fun j => hf _ (by omega)
  by_cases hlt : i < l.length
  · obtain ⟨r, hr⟩ : ∃ r, l[i] = r := ⟨l[i], rfl⟩
    have hdr : l.drop i = r :: l.drop (i + 1) := by rw [List.drop_eq_getElem_cons hlt, hr]
    have hval : (natF r).valid = true := by
      unfold okAll at hv
      rw [List.all_eq_true] at hv
      exact hv r (by rw [← hr]; exact List.getElem_mem hlt)
    have b1 := lo_hi r hval
    have b2 := hi_bound r hval
    have b3 := lo_bound r hval
    have b4 := rowN_bound picks taken r hval
    have hw1 : IntKind.i64.wrap ((i : Int) + 1) = (i : Int) + 1 := wrap_i64 (by omega) (by omega)
    have w1 : IntKind.i64.wrap ((natF r).hi - (natF r).lo) = (natF r).hi - (natF r).lo := wrap_i64 (by omega) (by omega)
    have w2 : IntKind.i64.wrap ((natF r).hi - (natF r).lo + 1) = (natF r).hi - (natF r).lo + 1 := wrap_i64 (by omega) (by omega)
    have w4 : IntKind.i64.wrap ((taken : Int) + 1) = (taken : Int) + 1 := wrap_i64 (by omega) (by omega)
    have hl1 := @least_run n (by omega) r
    have hm1 := @most_run n (by omega) r
    have s1 : pg.sh 79 = false := rfl
    have s2 : pg.sh 80 = false := rfl
    simp only [rowD] at hl1 hm1
    have hp : ∀ h, call pg (rc pg n) 93 [intsD picks, D.int taken] h = some (.ret (D.int (if picks = [] then 0 else picks.getD (taken % picks.length) 0)), h) := fun h => call_of (h := h) (pg := pg) (f := 93) rfl (by simp [intsD, canonL_map D.int (fun _ => rfl)]) (@rpick_run picks taken n (by omega))
    obtain ⟨p0, hp0⟩ : ∃ p0, p0 = (if picks = [] then 0 else picks.getD (taken % picks.length) 0) := ⟨_, rfl⟩
    simp only [← hp0] at hp
    have hmd := fun p h => call_of (h := h) (pg := pg) (f := 54) rfl rfl (@mod_run p ((natF r).hi - (natF r).lo + 1) (by omega) (by omega) n (by omega))
    rw [hdr, readF] at hrd
    refine kinds_cases r _ ?_ ?_ ?_ ?_ ?_ ?_ ?_
    · intro hk
      have hY : yoF (natF r) ((natF r).lo + rowN picks taken r) = [] := by simp [yoF, rowN, natF, hk]
      have et : tk taken r = taken := by simp [tk, natF, hk]
      rw [hY, et, List.nil_append] at hrd
      simp only [hk] at hl1 hm1
      simp [k49l1, v0, v11, hlt, hr, rowD, D.cells, D.one, hfr, Nat.add_assoc, hw1, hk, dcore_f, s1, s2, w1, w2, hl1, hm1]
      refine ⟨k - 1, by omega, _, _, i + 1, taken, d, acc, rfl, by omega, by simp [v0, rowsD], by simp [v1], by simp, by simp [v10], by simp [v9], hd.keep (by simp <;> omega) (fun k cs hk' => ?_), by omega, by omega, hrd, ?_, by simp <;> omega⟩
      · have hlt' := Fr_lt hf hk'
        simp [show k ≠ h.next + 116 by omega, hk']
      · repeat' first | exact hf | apply Heap.Fr.bump | apply Heap.Fr.set
        all_goals (simp <;> omega)
    · intro hk
      have hY : yoF (natF r) ((natF r).lo + rowN picks taken r) = [r.n] := by simp [yoF, rowN, natF, hk]
      have et : tk taken r = taken := by simp [tk, natF, hk]
      simp only [hk] at hl1 hm1
      rw [hY, et] at hrd
      rcases hd with ⟨hl0, rfl⟩ | ⟨k1, rfl, hg1, hk2, hk3⟩
      · subst hl0
        simp [k49l1, v0, v11, v9, hlt, hr, rowD, D.cells, D.one, hfr, Nat.add_assoc, hw1, hk, dcore_f, s1, s2, w1, w2, hl1, hm1, apK_some, room, maxLen, zerosD, List.range_succ]
        refine ⟨k - 1, by omega, _, _, i + 1, taken, _, [r.n], rfl, by omega, by simp [v0, rowsD], by simp [v1], by simp, by simp [v10], by simp; rfl, .inr ⟨_, by simp; rfl, by simp, by simp <;> omega, by omega⟩, by simp; omega, by omega, by simpa using hrd, ?_, by simp <;> omega⟩
        repeat' first | exact hf | apply Heap.Fr.bump | apply Heap.Fr.set
        all_goals (simp <;> omega)
      · have e1 : ∀ j, (k1 = h.next + j) = False := fun j => by simp; omega
        have e2 : ∀ j, (h.next + j = k1) = False := fun j => by simp; omega
        have happ := fun t hh news => appS_none (t := t) (et := 3) (sz := 1) (bytes := 8) (h := hh) (m := 1) (news := news) (k := k1) (n := acc.length) (cs := acc.map D.int) (by simp) (by omega) (by unfold room; omega) (by unfold maxLen; omega)
        simp [k49l1, v0, v11, v9, hlt, hr, rowD, D.cells, D.one, hfr, Nat.add_assoc, hw1, hk, dcore_f, s1, s2, w1, w2, hl1, hm1, apK_some, zerosD, List.range_succ, e1, e2, hg1, happ]
        refine ⟨k - 1, by omega, _, _, i + 1, taken, _, acc ++ [r.n], rfl, by omega, by simp [v0, rowsD], by simp [v1], by simp, by simp [v10], by simp; rfl, .inr ⟨_, by simp; rfl, by simp, by simp <;> omega, by omega⟩, by simp; omega, by omega, by rw [hrd, List.append_assoc], ?_, by simp <;> omega⟩
        repeat' first | exact hf | apply Heap.Fr.bump | apply Heap.Fr.set
        all_goals (simp <;> omega)
    · intro hk
      have hch : (natF r).choice = true := by simp [natF, hk]
      have hq := rowN_eq picks taken r hval hch
      rw [← hp0] at hq
      have et : tk taken r = taken + 1 := by simp [tk, hch]
      have hn2 : 1 ≤ r.n ∧ r.n ≤ 100000 ∧ 1 ≤ r.m ∧ r.m ≤ 100000 := by simp [natF, hk, thickB, inB] at hval; omega
      have w5 : IntKind.i64.wrap (r.n + r.m) = r.n + r.m := wrap_i64 (by omega) (by omega)
      simp only [hk] at hl1 hm1
      by_cases h0 : rowN picks taken r = 0
      · have hY : yoF (natF r) ((natF r).lo + rowN picks taken r) = [r.n + r.m] := by rw [h0]; simp [yoF, natF, hk]
        rw [hY, et] at hrd
        rcases hd with ⟨hl0, rfl⟩ | ⟨k1, rfl, hg1, hk2, hk3⟩
        · subst hl0
          simp [k49l1, v0, v1, v11, v10, v9, hlt, hr, rowD, D.cells, D.one, hfr, Nat.add_assoc, hw1, hk, dcore_f, s1, s2, w1, w2, w4, hl1, hm1, hp, hmd, apK_some, room, maxLen, zerosD, List.range_succ, hq, h0, w5]
          refine ⟨k - 1, by omega, _, _, i + 1, taken + 1, _, [r.n + r.m], rfl, by omega, by simp [v0, rowsD], by simp [v1], by simp, by simp, by simp; rfl, .inr ⟨_, by simp; rfl, by simp, by simp <;> omega, by omega⟩, by simp; omega, by omega, by simpa using hrd, ?_, by simp <;> omega⟩
          repeat' first | exact hf | apply Heap.Fr.bump | apply Heap.Fr.set
          all_goals (simp <;> omega)
        · have e1 : ∀ j, (k1 = h.next + j) = False := fun j => by simp; omega
          have e2 : ∀ j, (h.next + j = k1) = False := fun j => by simp; omega
          have happ := fun t hh news => appS_none (t := t) (et := 3) (sz := 1) (bytes := 8) (h := hh) (m := 1) (news := news) (k := k1) (n := acc.length) (cs := acc.map D.int) (by simp) (by omega) (by unfold room; omega) (by unfold maxLen; omega)
          simp [k49l1, v0, v1, v11, v10, v9, hlt, hr, rowD, D.cells, D.one, hfr, Nat.add_assoc, hw1, hk, dcore_f, s1, s2, w1, w2, w4, hl1, hm1, hp, hmd, apK_some, zerosD, List.range_succ, e1, e2, hg1, happ, hq, h0, w5]
          refine ⟨k - 1, by omega, _, _, i + 1, taken + 1, _, acc ++ [r.n + r.m], rfl, by omega, by simp [v0, rowsD], by simp [v1], by simp, by simp, by simp; rfl, .inr ⟨_, by simp; rfl, by simp, by simp <;> omega, by omega⟩, by simp; omega, by omega, by rw [hrd, List.append_assoc], ?_, by simp <;> omega⟩
          repeat' first | exact hf | apply Heap.Fr.bump | apply Heap.Fr.set
          all_goals (simp <;> omega)
      · have h0' : (rowN picks taken r == 0) = false := by simpa using h0
        have hlo : (natF r).lo = 1 := by simp [natF, hk]
        have hY : yoF (natF r) ((natF r).lo + rowN picks taken r) = [r.n, r.m] := by
          rw [hlo]
          have : ¬ (1 + rowN picks taken r < 2) := by omega
          simp [yoF, natF, hk, this]
        rw [hY, et] at hrd
        rcases hd with ⟨hl0, rfl⟩ | ⟨k1, rfl, hg1, hk2, hk3⟩
        · subst hl0
          simp [k49l1, v0, v1, v11, v10, v9, hlt, hr, rowD, D.cells, D.one, hfr, Nat.add_assoc, hw1, hk, dcore_f, s1, s2, w1, w2, w4, hl1, hm1, hp, hmd, apK_some, room, maxLen, zerosD, List.range_succ, hq, h0']
          refine ⟨k - 1, by omega, _, _, i + 1, taken + 1, _, [r.n, r.m], rfl, by omega, by simp [v0, rowsD], by simp [v1], by simp, by simp, by simp; rfl, .inr ⟨_, by simp; rfl, by simp, by simp <;> omega, by omega⟩, by simp; omega, by omega, by simpa using hrd, ?_, by simp <;> omega⟩
          repeat' first | exact hf | apply Heap.Fr.bump | apply Heap.Fr.set
          all_goals (simp <;> omega)
        · have e1 : ∀ j, (k1 = h.next + j) = False := fun j => by simp; omega
          have e2 : ∀ j, (h.next + j = k1) = False := fun j => by simp; omega
          have happ := fun t hh news => appS_none (t := t) (et := 3) (sz := 1) (bytes := 8) (h := hh) (m := 2) (news := news) (k := k1) (n := acc.length) (cs := acc.map D.int) (by simp) (by omega) (by unfold room; omega) (by unfold maxLen; omega)
          simp [k49l1, v0, v1, v11, v10, v9, hlt, hr, rowD, D.cells, D.one, hfr, Nat.add_assoc, hw1, hk, dcore_f, s1, s2, w1, w2, w4, hl1, hm1, hp, hmd, apK_some, zerosD, List.range_succ, e1, e2, hg1, happ, hq, h0']
          refine ⟨k - 1, by omega, _, _, i + 1, taken + 1, _, acc ++ [r.n, r.m], rfl, by omega, by simp [v0, rowsD], by simp [v1], by simp, by simp, by simp; rfl, .inr ⟨_, by simp; rfl, by simp, by simp <;> omega, by omega⟩, by simp; omega, by omega, by rw [hrd, List.append_assoc], ?_, by simp <;> omega⟩
          repeat' first | exact hf | apply Heap.Fr.bump | apply Heap.Fr.set
          all_goals (simp <;> omega)
    · intro hk
      have hch : (natF r).choice = true := by simp [natF, hk]
      have hq := rowN_eq picks taken r hval hch
      rw [← hp0] at hq
      have et : tk taken r = taken + 1 := by simp [tk, hch]
      simp only [hk] at hl1 hm1
      simp [k49l1, v0, v1, v11, v10, hlt, hr, rowD, D.cells, D.one, hfr, Nat.add_assoc, hk, dcore_f, s1, s2, w1, w2, w4, hl1, hm1, hp, hmd, hq, ev_loop]
      have hY : yoF (natF r) ((natF r).lo + rowN picks taken r) = List.replicate ((natF r).lo + rowN picks taken r).toNat 0 := by
        have hhid : (natF r).hides = true := by simp [natF, hk]
        simp [yoF, hhid]
      rw [hY, et] at hrd
      refine block3 (lp_rule 3 (ZI _ (h.next + 116) r (rowN picks taken r) acc) _ (zero_round _ (h.next + 116) r (rowN picks taken r) acc (by omega) (by omega) (by omega)) ((natF r).lo + rowN picks taken r).toNat n _ (by omega)
        ⟨_, _, 0, d, rfl, by omega, ⟨rfl, rfl⟩, ⟨rfl, rfl⟩, by simp, by simp [hk], by simp, by simp, by simp [v9], ?_, ?_, by simp <;> omega⟩) ?_
      · rw [List.replicate_zero, List.append_nil]
        exact hd.keep (by simp <;> omega) (fun k cs hk' => by
          have hlt' := Fr_lt hf hk'
          simp [show k ≠ h.next + 116 by omega, hk'])
      · repeat' first | exact hf | apply Heap.Fr.bump | apply Heap.Fr.set
        all_goals (simp <;> omega)
      rintro xx ss ⟨rfl, X, h2, i2, d2, rfl, hi2, ⟨u0, u1⟩, ⟨u10, u11⟩, _, _, _, _, u9, hd2, hf2, hn2⟩
      simp [v0, v1, v11] at u0 u1 u10 u11
      simp [u11, hw1]
      have hi2' : i2 = ((natF r).lo + rowN picks taken r).toNat := by omega
      rw [hi2'] at hd2
      exact ⟨k - 1, by omega, _, _, i + 1, taken + 1, d2, _, rfl, by omega, by simp [u0, rowsD], by simp [u1], by simp, by simp [u10], by simp [u9], hd2.keep (by simp) (fun k cs hk => by simpa using hk), by simp; omega, by omega, by rw [hrd, List.append_assoc], hf2.bump _, by simp <;> omega⟩
    · intro hk
      have hY : yoF (natF r) ((natF r).lo + rowN picks taken r) = [] := by simp [yoF, rowN, natF, hk]
      have et : tk taken r = taken := by simp [tk, natF, hk]
      rw [hY, et, List.nil_append] at hrd
      simp only [hk] at hl1 hm1
      simp [k49l1, v0, v11, hlt, hr, rowD, D.cells, D.one, hfr, Nat.add_assoc, hw1, hk, dcore_f, s1, s2, w1, w2, hl1, hm1]
      refine ⟨k - 1, by omega, _, _, i + 1, taken, d, acc, rfl, by omega, by simp [v0, rowsD], by simp [v1], by simp, by simp [v10], by simp [v9], hd.keep (by simp <;> omega) (fun k cs hk' => ?_), by omega, by omega, hrd, ?_, by simp <;> omega⟩
      · have hlt' := Fr_lt hf hk'
        simp [show k ≠ h.next + 116 by omega, hk']
      · repeat' first | exact hf | apply Heap.Fr.bump | apply Heap.Fr.set
        all_goals (simp <;> omega)
    · intro hk
      have hch : (natF r).choice = true := by simp [natF, hk]
      have hq := rowN_eq picks taken r hval hch
      rw [← hp0] at hq
      have et : tk taken r = taken + 1 := by simp [tk, hch]
      simp only [hk] at hl1 hm1
      simp [k49l1, v0, v1, v11, v10, hlt, hr, rowD, D.cells, D.one, hfr, Nat.add_assoc, hk, dcore_f, s1, s2, w1, w2, w4, hl1, hm1, hp, hmd, hq, ev_loop]
      have hY : yoF (natF r) ((natF r).lo + rowN picks taken r) = List.replicate ((natF r).lo + rowN picks taken r).toNat 0 := by
        have hhid : (natF r).hides = true := by simp [natF, hk]
        simp [yoF, hhid]
      rw [hY, et] at hrd
      refine block3 (lp_rule 3 (ZI _ (h.next + 116) r (rowN picks taken r) acc) _ (zero_round _ (h.next + 116) r (rowN picks taken r) acc (by omega) (by omega) (by omega)) ((natF r).lo + rowN picks taken r).toNat n _ (by omega)
        ⟨_, _, 0, d, rfl, by omega, ⟨rfl, rfl⟩, ⟨rfl, rfl⟩, by simp, by simp [hk], by simp, by simp, by simp [v9], ?_, ?_, by simp <;> omega⟩) ?_
      · rw [List.replicate_zero, List.append_nil]
        exact hd.keep (by simp <;> omega) (fun k cs hk' => by
          have hlt' := Fr_lt hf hk'
          simp [show k ≠ h.next + 116 by omega, hk'])
      · repeat' first | exact hf | apply Heap.Fr.bump | apply Heap.Fr.set
        all_goals (simp <;> omega)
      rintro xx ss ⟨rfl, X, h2, i2, d2, rfl, hi2, ⟨u0, u1⟩, ⟨u10, u11⟩, _, _, _, _, u9, hd2, hf2, hn2⟩
      simp [v0, v1, v11] at u0 u1 u10 u11
      simp [u11, hw1]
      have hi2' : i2 = ((natF r).lo + rowN picks taken r).toNat := by omega
      rw [hi2'] at hd2
      exact ⟨k - 1, by omega, _, _, i + 1, taken + 1, d2, _, rfl, by omega, by simp [u0, rowsD], by simp [u1], by simp, by simp [u10], by simp [u9], hd2.keep (by simp) (fun k cs hk => by simpa using hk), by simp; omega, by omega, by rw [hrd, List.append_assoc], hf2.bump _, by simp <;> omega⟩
    · intro _ _ _ _ _ _ a1 a2 a3 a4 a5 a6
      simp [natF, a1, a2, a3, a4, a5, a6] at hval
  · simp [k49l1, v0, v11, hlt]
    exact ⟨_, _, i, taken, d, acc, rfl, by omega, by simp [v0, rowsD], by simp [v1], by simp [v11], by simp [v10], by simp [v9], hd.keep (by simp) (fun k cs hk => by simpa using hk), hacc, htk, hrd, hf.bump _, by simp <;> omega⟩
end Go.Proofs.YthgnholbajpdgaaDoor
