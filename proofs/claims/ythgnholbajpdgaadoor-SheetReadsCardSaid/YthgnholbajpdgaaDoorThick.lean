/- The thicknesses of rows. -/
import Derived.Test.YthgnholbajpdgaaDoorLen
namespace Go.Proofs.YthgnholbajpdgaaDoor
open Go Go.Em
set_option maxRecDepth 100000
def layers (l : List Rw) : List Int := l.flatMap fun r => (natF r).layers
theorem layers_snoc (l : List Rw) (r : Rw) : layers (l ++ [r]) = layers l ++ (natF r).layers := by simp [layers]
theorem layers_shape (r : Rw) : (natF r).layers = [] ∨ (∃ a, (natF r).layers = [a]) ∨ ∃ a b, (natF r).layers = [a, b] := by
  unfold natF
  repeat' split
  all_goals simp
theorem layers_len : ∀ l : List Rw, (layers l).length ≤ 2 * l.length
  | [] => by simp [layers]
  | r :: l => by
    have h1 := layers_len l
    have h2 : (natF r).layers.length ≤ 2 := by rcases layers_shape r with h | ⟨a, h⟩ | ⟨a, b, h⟩ <;> simp [h]
    have e : layers (r :: l) = (natF r).layers ++ layers l := by simp [layers]
    rw [e, List.length_append, List.length_cons]
    omega
def TI (l : List Rw) (k : Nat) (s : St) : Prop := ∃ (x : Env 29) (h : Heap) (i : Nat) (d : D), s = ⟨x.l, h, []⟩ ∧ i + k = l.length ∧ x.v 17 = natsD (l.map natF) ∧ x.v 18 = D.int l.length ∧ x.v 19 = D.int i ∧ x.v 6 = d ∧ Gl h d (layers (l.take i)) ∧ h.Fr ∧ 1 < h.next
set_option maxHeartbeats 2000000 in
theorem thick_round (l : List Rw) (hl : l.length ≤ 400) : ∀ n, 0 ≤ n → ∀ k s, TI l k s → Res (k50l0.ev ⟨pg, 29, none⟩ (rc pg n) s) (Rnd (TI l) (fun x s => x = .exit 0 ∧ TI l 0 s) k) := by
  rintro n hn k s ⟨x, h, i, d, rfl, hik, v17, v18, v19, v6, hd, hf, hn1⟩
  simp only [natsD] at v17
  have hfr : ∀ j, h.raw (h.next + j) = none := fun j => hf _ (by omega)
  by_cases hlt : i < l.length
  · obtain ⟨r, hr⟩ : ∃ r, l[i] = r := ⟨l[i], rfl⟩
    have htake : l.take (i + 1) = l.take i ++ [r] := by rw [List.take_add_one, List.getElem?_eq_getElem hlt, hr]; rfl
    have hms := layers_snoc (l.take i) r
    rw [← htake] at hms
    have hw1 : IntKind.i64.wrap ((i : Int) + 1) = (i : Int) + 1 := wrap_i64 (by omega) (by omega)
    have hll := layers_len (l.take i)
    rw [List.length_take] at hll
    rcases hd with ⟨hl0, rfl⟩ | ⟨k1, rfl, hg1, hk2, hk3⟩
    · rw [hl0, List.nil_append] at hms
      rcases layers_shape r with hs | ⟨a, hs⟩ | ⟨a, b, hs⟩
      · simp [k50l0, v17, v18, v19, v6, hlt, hr, natD, natC, D.cells, D.one, hfr, Nat.add_assoc, hw1, hs, apK_zero_nil]
        refine ⟨k - 1, by omega, _, _, i + 1, .val (.slice none 0 0), rfl, by omega, by simp [v17, natsD], by simp [v18], by simp, by simp, .inl ⟨by rw [hms, hs], rfl⟩, ?_, by simp <;> omega⟩
        repeat' first | exact hf | apply Heap.Fr.bump | apply Heap.Fr.set
        all_goals (simp <;> omega)
      · simp [k50l0, v17, v18, v19, v6, hlt, hr, natD, natC, D.cells, D.one, hfr, Nat.add_assoc, hw1, hs, apK_some, room, maxLen]
        refine ⟨k - 1, by omega, _, _, i + 1, _, rfl, by omega, by simp [v17, natsD], by simp [v18], by simp, by simp; rfl, .inr ⟨_, by simp [hms, hs]; rfl, by simp [hms, hs], by simp <;> omega, by omega⟩, ?_, by simp <;> omega⟩
        repeat' first | exact hf | apply Heap.Fr.bump | apply Heap.Fr.set
        all_goals (simp <;> omega)
      · simp [k50l0, v17, v18, v19, v6, hlt, hr, natD, natC, D.cells, D.one, hfr, Nat.add_assoc, hw1, hs, apK_some, room, maxLen]
        refine ⟨k - 1, by omega, _, _, i + 1, _, rfl, by omega, by simp [v17, natsD], by simp [v18], by simp, by simp; rfl, .inr ⟨_, by simp [hms, hs]; rfl, by simp [hms, hs], by simp <;> omega, by omega⟩, ?_, by simp <;> omega⟩
        repeat' first | exact hf | apply Heap.Fr.bump | apply Heap.Fr.set
        all_goals (simp <;> omega)
    · have e1 : ∀ j, (k1 = h.next + j) = False := fun j => by simp; omega
      have e2 : ∀ j, (h.next + j = k1) = False := fun j => by simp; omega
      have happ1 := fun t hh news => appS_none (t := t) (et := 3) (sz := 1) (bytes := 8) (h := hh) (m := 1) (news := news) (k := k1) (n := (layers (l.take i)).length) (cs := (layers (l.take i)).map D.int) (by simp) (by omega) (by unfold room; omega) (by unfold maxLen; omega)
      have happ2 := fun t hh news => appS_none (t := t) (et := 3) (sz := 1) (bytes := 8) (h := hh) (m := 2) (news := news) (k := k1) (n := (layers (l.take i)).length) (cs := (layers (l.take i)).map D.int) (by simp) (by omega) (by unfold room; omega) (by unfold maxLen; omega)
      rcases layers_shape r with hs | ⟨a, hs⟩ | ⟨a, b, hs⟩
      · simp [k50l0, v17, v18, v19, v6, hlt, hr, natD, natC, D.cells, D.one, hfr, Nat.add_assoc, hw1, hs, apK_zero_slr]
        refine ⟨k - 1, by omega, _, _, i + 1, .slr k1 0 (layers (l.take i)).length 1 none, rfl, by omega, by simp [v17, natsD], by simp [v18], by simp, by simp, .inr ⟨k1, by rw [hms, hs, List.append_nil], by simp [hms, hs, e1, hg1], by simp <;> omega, hk3⟩, ?_, by simp <;> omega⟩
        repeat' first | exact hf | apply Heap.Fr.bump | apply Heap.Fr.set
        all_goals (simp <;> omega)
      · simp [k50l0, v17, v18, v19, v6, hlt, hr, natD, natC, D.cells, D.one, hfr, Nat.add_assoc, hw1, hs, apK_some, e1, e2, hg1, happ1]
        refine ⟨k - 1, by omega, _, _, i + 1, _, rfl, by omega, by simp [v17, natsD], by simp [v18], by simp, by simp; rfl, .inr ⟨_, by simp [hms, hs]; rfl, by simp [hms, hs], by simp <;> omega, by omega⟩, ?_, by simp <;> omega⟩
        repeat' first | exact hf | apply Heap.Fr.bump | apply Heap.Fr.set
        all_goals (simp <;> omega)
      · simp [k50l0, v17, v18, v19, v6, hlt, hr, natD, natC, D.cells, D.one, hfr, Nat.add_assoc, hw1, hs, apK_some, e1, e2, hg1, happ2]
        refine ⟨k - 1, by omega, _, _, i + 1, _, rfl, by omega, by simp [v17, natsD], by simp [v18], by simp, by simp; rfl, .inr ⟨_, by simp [hms, hs]; rfl, by simp [hms, hs], by simp <;> omega, by omega⟩, ?_, by simp <;> omega⟩
        repeat' first | exact hf | apply Heap.Fr.bump | apply Heap.Fr.set
        all_goals (simp <;> omega)
  · simp [k50l0, v18, v19, hlt]
    have hi : i = l.length := by omega
    refine ⟨_, _, i, d, rfl, by omega, by simp [v17, natsD], by simp [v18], by simp [v19], by simp [v6], hd.keep (by simp) (fun k cs hk => by simpa using hk), hf.bump _, by simp <;> omega⟩
def thickL (l : List Rw) : List Int := if (layF l).2 = 0 then layers l else []
theorem thick_pure (l : List Rw) {n : Nat} (hn : l.length + 520 ≤ n) : pureCall (rc pg n) 50 [rowsD l] = some (.ret (.tup [intsD (thickL l), D.int (layF l).2])) := by
  obtain ⟨m, rfl, e⟩ := body (pg := pg) (f := 50) (args := [rowsD l]) (show 0 < n by omega) rfl rfl
  rw [e]
  have hlay := fun h => call_of (h := h) (pg := pg) (f := 81) rfl (rows_canon l) (@layered_run l m (by omega))
  simp only [rowsD, natsD] at hlay
  by_cases h4 : (layF l).2 = 0
  · obtain ⟨a1, a2, a3⟩ := lay_ok h4
    rw [a3, nats_ok a1, h4] at hlay
    simp [k50, Env.v_ini, rowsD, hlay, ev_loop]
    refine Res.endsAfter (lp_rule 0 (TI l) _ (thick_round l (len_of_ok a1)) l.length m _ (by omega) ⟨_, _, 0, .val (.slice none 0 0), rfl, by omega, by simp [natsD], by simp, by simp, by simp, .inl ⟨rfl, rfl⟩, ?_, by simp⟩) ?_
    · repeat' first | exact Heap.Fr.empty | apply Heap.Fr.bump | apply Heap.Fr.set
    rintro x s ⟨rfl, x, h, i, d, rfl, hi, v17, v18, v19, v6, hd, hf, _⟩
    obtain rfl : i = l.length := by omega
    rw [List.take_length] at hd
    have hd' : Gl (h.bump 29) d (layers l) := hd.keep (by simp) fun k cs hk => by simpa using hk
    obtain ⟨ks, hfz⟩ := hd'.frozen 21
    simp [v6, thickL, h4, hfz, intsD]
  · have h4' : ((layF l).2 != 0) = true := by simpa using h4
    simp [k50, Env.v_ini, rowsD, hlay, h4, h4', thickL, intsD]
end Go.Proofs.YthgnholbajpdgaaDoor
/- The thicknesses of rows, by the document. -/
namespace Go.Proofs.YthgnholbajpdgaaDoor
open Go Go.Em
set_option maxRecDepth 100000
def TJ (l : List Rw) (k : Nat) (s : St) : Prop := ∃ (x : Env 53) (h : Heap) (i : Nat) (d : D), s = ⟨x.l, h, []⟩ ∧ i + k = l.length ∧ x.v 0 = rowsD l ∧ x.v 7 = D.int i ∧ x.v 6 = d ∧ Gl h d (layers (l.take i)) ∧ h.Fr ∧ 1 < h.next
set_option maxHeartbeats 4000000 in
theorem rthick_round (l : List Rw) (hl : l.length ≤ 400) : ∀ n, 0 ≤ n → ∀ k s, TJ l k s → Res (k51l0.ev ⟨pg, 53, none⟩ (rc pg n) s) (Rnd (TJ l) (fun x s => x = .exit 0 ∧ TJ l 0 s) k) := by
  rintro n hn k s ⟨x, h, i, d, rfl, hik, v0, v7, v6, hd, hf, hn1⟩
  simp only [rowsD] at v0
  have hfr : ∀ j, h.raw (h.next + j) = none := fun j => hf _ (by omega)
  by_cases hlt : i < l.length
  · obtain ⟨r, hr⟩ : ∃ r, l[i] = r := ⟨l[i], rfl⟩
    have htake : l.take (i + 1) = l.take i ++ [r] := by rw [List.take_add_one, List.getElem?_eq_getElem hlt, hr]; rfl
    have hms := layers_snoc (l.take i) r
    rw [← htake] at hms
    have hw1 : IntKind.i64.wrap ((i : Int) + 1) = (i : Int) + 1 := wrap_i64 (by omega) (by omega)
    have hll := layers_len (l.take i)
    rw [List.length_take] at hll
    by_cases h2 : r.k = 2
    · have hs : (natF r).layers = [r.n] := by simp [natF, h2]
      rcases hd with ⟨hl0, rfl⟩ | ⟨k1, rfl, hg1, hk2, hk3⟩
      · rw [hl0, List.nil_append] at hms
        simp [k51l0, v0, v7, v6, hlt, hr, rowD, D.cells, D.one, hfr, Nat.add_assoc, hw1, h2, apK_some, room, maxLen, zerosD]
        refine ⟨k - 1, by omega, _, _, i + 1, _, rfl, by omega, by simp [v0, rowsD], by simp, by simp; rfl, .inr ⟨_, by simp [hms, hs]; rfl, by simp [hms, hs], by simp <;> omega, by omega⟩, ?_, by simp <;> omega⟩
        repeat' first | exact hf | apply Heap.Fr.bump | apply Heap.Fr.set
        all_goals (simp <;> omega)
      · have e1 : ∀ j, (k1 = h.next + j) = False := fun j => by simp; omega
        have e2 : ∀ j, (h.next + j = k1) = False := fun j => by simp; omega
        have happ1 := fun t hh news => appS_none (t := t) (et := 3) (sz := 1) (bytes := 8) (h := hh) (m := 1) (news := news) (k := k1) (n := (layers (l.take i)).length) (cs := (layers (l.take i)).map D.int) (by simp) (by omega) (by unfold room; omega) (by unfold maxLen; omega)
        simp [k51l0, v0, v7, v6, hlt, hr, rowD, D.cells, D.one, hfr, Nat.add_assoc, hw1, h2, apK_some, zerosD, e1, e2, hg1, happ1]
        refine ⟨k - 1, by omega, _, _, i + 1, _, rfl, by omega, by simp [v0, rowsD], by simp, by simp; rfl, .inr ⟨_, by simp [hms, hs]; rfl, by simp [hms, hs], by simp <;> omega, by omega⟩, ?_, by simp <;> omega⟩
        repeat' first | exact hf | apply Heap.Fr.bump | apply Heap.Fr.set
        all_goals (simp <;> omega)
    · have b2 : (r.k == 2) = false := by simpa using h2
      by_cases h3 : r.k = 3
      · have hs : (natF r).layers = [r.n, r.m] := by simp [natF, h3]
        rcases hd with ⟨hl0, rfl⟩ | ⟨k1, rfl, hg1, hk2, hk3⟩
        · rw [hl0, List.nil_append] at hms
          simp [k51l0, v0, v7, v6, hlt, hr, rowD, D.cells, D.one, hfr, Nat.add_assoc, hw1, h3, apK_some, room, maxLen, zerosD, List.range_succ]
          refine ⟨k - 1, by omega, _, _, i + 1, _, rfl, by omega, by simp [v0, rowsD], by simp, by simp; rfl, .inr ⟨_, by simp [hms, hs]; rfl, by simp [hms, hs], by simp <;> omega, by omega⟩, ?_, by simp <;> omega⟩
          repeat' first | exact hf | apply Heap.Fr.bump | apply Heap.Fr.set
          all_goals (simp <;> omega)
        · have e1 : ∀ j, (k1 = h.next + j) = False := fun j => by simp; omega
          have e2 : ∀ j, (h.next + j = k1) = False := fun j => by simp; omega
          have happ2 := fun t hh news => appS_none (t := t) (et := 3) (sz := 1) (bytes := 8) (h := hh) (m := 2) (news := news) (k := k1) (n := (layers (l.take i)).length) (cs := (layers (l.take i)).map D.int) (by simp) (by omega) (by unfold room; omega) (by unfold maxLen; omega)
          simp [k51l0, v0, v7, v6, hlt, hr, rowD, D.cells, D.one, hfr, Nat.add_assoc, hw1, h3, apK_some, zerosD, List.range_succ, e1, e2, hg1, happ2]
          refine ⟨k - 1, by omega, _, _, i + 1, _, rfl, by omega, by simp [v0, rowsD], by simp, by simp; rfl, .inr ⟨_, by simp [hms, hs]; rfl, by simp [hms, hs], by simp <;> omega, by omega⟩, ?_, by simp <;> omega⟩
          repeat' first | exact hf | apply Heap.Fr.bump | apply Heap.Fr.set
          all_goals (simp <;> omega)
      · have b3 : (r.k == 3) = false := by simpa using h3
        have hs : (natF r).layers = [] := by
          unfold natF
          repeat' split
          all_goals simp_all
        rw [hs, List.append_nil] at hms
        simp [k51l0, v0, v7, hlt, hr, rowD, D.cells, hw1, b2, b3]
        refine ⟨k - 1, by omega, _, _, i + 1, d, rfl, by omega, by simp [v0, rowsD], by simp, by simp [v6], ?_, ?_, by simp <;> omega⟩
        · rw [hms]
          exact hd.keep (by simp <;> omega) fun k cs hk => by simpa using hk
        · repeat' first | exact hf | apply Heap.Fr.bump
  · simp [k51l0, v0, v7, hlt]
    exact ⟨_, _, i, d, rfl, by omega, by simp [v0, rowsD], by simp [v7], by simp [v6], hd.keep (by simp) (fun k cs hk => by simpa using hk), hf.bump _, by simp <;> omega⟩
theorem lenF_err (l : List Rw) : (lenF l).2 = (layF l).2 := by unfold lenF; split <;> simp_all
theorem rthick_run (l : List Rw) {n : Nat} (hn : l.length + 540 ≤ n) : pureCall (rc pg n) 51 [rowsD l] = some (.ret (.tup [intsD (thickL l), D.int (layF l).2])) := by
  obtain ⟨m, rfl, e⟩ := body (pg := pg) (f := 51) (args := [rowsD l]) (show 0 < n by omega) rfl rfl
  rw [e]
  have hlen := fun h => call_of (h := h) (pg := pg) (f := 35) rfl (rows_canon l) (@rlen_run l m (by omega))
  simp only [rowsD, lenF_err] at hlen
  by_cases h4 : (layF l).2 = 0
  · obtain ⟨a1, a2, a3⟩ := lay_ok h4
    simp [k51, Env.v_ini, rowsD, hlen, h4, ev_loop]
    refine Res.endsAfter (lp_rule 0 (TJ l) _ (rthick_round l (len_of_ok a1)) l.length m _ (by omega) ⟨_, _, 0, .val (.slice none 0 0), rfl, by omega, by simp [Env.v_ini, rowsD], by simp, by simp, .inl ⟨rfl, rfl⟩, ?_, by simp⟩) ?_
    · repeat' first | exact Heap.Fr.empty | apply Heap.Fr.bump | apply Heap.Fr.set
    rintro x s ⟨rfl, x, h, i, d, rfl, hi, v0, v7, v6, hd, hf, _⟩
    obtain rfl : i = l.length := by omega
    rw [List.take_length] at hd
    have hd' : Gl (h.bump 53) d (layers l) := hd.keep (by simp) fun k cs hk => by simpa using hk
    obtain ⟨ks, hfz⟩ := hd'.frozen 21
    simp [v6, thickL, h4, hfz, intsD]
  · have h4' : ((layF l).2 != 0) = true := by simpa using h4
    simp [k51, Env.v_ini, rowsD, hlen, h4, h4', thickL, intsD]
end Go.Proofs.YthgnholbajpdgaaDoor
