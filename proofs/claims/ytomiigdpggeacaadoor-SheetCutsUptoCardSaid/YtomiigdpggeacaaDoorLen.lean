/- Years and thickness of rows. -/
import Derived.Test.YtomiigdpggeacaaDoorRowsLaw
namespace Go.Proofs.YtomiigdpggeacaaDoor
open Go Go.Em
set_option maxRecDepth 100000
theorem nats_canon (l : List Nt) : D.canonL (l.map natD) = true := canonL_map natD natD_canon l
theorem contains_run (l : List Nt) (hl : l.length ≤ 400) {n : Nat} (hn : l.length + 15 ≤ n) : pureCall (rc pg n) 91 [natsD l, hidF] = some (.ret (D.bool (l.any (·.hides)))) := by
  obtain ⟨m, rfl, e⟩ := body (pg := pg) (f := 91) (args := [natsD l, hidF]) (show 0 < n by omega) rfl rfl
  rw [e]
  obtain ⟨d, h1, h2⟩ := find_run l hl (n := m) (by omega)
  have hc : D.canonL [natsD l, hidF] = true := by simp [natsD, hidF, nats_canon]
  have j := fun h => call_of (h := h) (pg := pg) (f := 114) rfl hc h1
  simp only [natsD, hidF] at j
  simp [k91, Env.v_ini, natsD, hidF, j]
  rw [← h2]
theorem natsF_len (l : List Rw) : (natsF l).1.length ≤ 400 := by
  unfold natsF
  repeat' split
  all_goals simp
  all_goals omega
/-- Natures of rows that hide nothing, or an error. -/
def layF (l : List Rw) : List Nt × Int := if (natsF l).2 ≠ 0 then ([], (natsF l).2) else if (natsF l).1.any (·.hides) = true then ([], 13) else ((natsF l).1, 0)
theorem layered_run (l : List Rw) {n : Nat} (hn : l.length + 500 ≤ n) : pureCall (rc pg n) 67 [rowsD l] = some (.ret (.tup [natsD (layF l).1, D.int (layF l).2])) := by
  obtain ⟨m, rfl, e⟩ := body (pg := pg) (f := 67) (args := [rowsD l]) (show 0 < n by omega) rfl rfl
  rw [e]
  have hlen := natsF_len l
  have hnat := fun h => call_of (h := h) (pg := pg) (f := 62) rfl (rows_canon l) (@natures_run l m (by omega))
  have hc : D.canonL [natsD (natsF l).1, hidF] = true := by simp [natsD, hidF, nats_canon]
  have j := fun h => call_of (h := h) (pg := pg) (f := 91) rfl hc (@contains_run (natsF l).1 hlen m (by omega))
  simp only [rowsD] at hnat
  simp only [natsD, hidF] at j
  have he := fun h n => each_canon h n _ (nats_canon (natsF l).1)
  by_cases h4 : (natsF l).2 = 0
  · by_cases h5 : (natsF l).1.any (·.hides) = true
    · simp [k67, Env.v_ini, rowsD, hnat, h4, j, h5, layF, natsD]
    · simp [k67, Env.v_ini, rowsD, hnat, h4, j, h5, layF, natsD, he]
  · have h4' : ((natsF l).2 != 0) = true := by simpa using h4
    simp [k67, Env.v_ini, rowsD, hnat, h4, h4', layF, natsD]
/-- The program's sums of years. -/
def VI (l : List Rw) (k : Nat) (s : St) : Prop := ∃ (x : Env 33) (h : Heap) (i : Nat), s = ⟨x.l, h, []⟩ ∧ i + k = l.length ∧ x.v 16 = natsD (l.map natF) ∧ x.v 17 = D.int l.length ∧ x.v 18 = D.int i ∧ x.v 2 = D.int (loSum (l.take i)) ∧ x.v 3 = D.int (hiSum (l.take i)) ∧ h.Fr
set_option maxHeartbeats 1000000 in
theorem pyears_round (l : List Rw) (hl : l.length ≤ 400) (hv : okAll l = true) : ∀ n, 0 ≤ n → ∀ k s, VI l k s → Res (k32l0.ev ⟨pg, 33, none⟩ (rc pg n) s) (Rnd (VI l) (fun x s => x = .exit 0 ∧ VI l 0 s) k) := by
  rintro n hn k s ⟨x, h, i, rfl, hik, v16, v17, v18, v2, v3, hf⟩
  simp only [natsD] at v16
  have hfr : ∀ j, h.raw (h.next + j) = none := fun j => hf _ (by omega)
  by_cases hlt : i < l.length
  · obtain ⟨r, hr⟩ : ∃ r, l[i] = r := ⟨l[i], rfl⟩
    have htake : l.take (i + 1) = l.take i ++ [r] := by rw [List.take_add_one, List.getElem?_eq_getElem hlt, hr]; rfl
    have hvt : ∀ j, okAll (l.take j) = true := fun j => by
      unfold okAll at hv ⊢
      rw [List.all_eq_true] at hv ⊢
      exact fun a ha => hv a (List.mem_of_mem_take ha)
    have hb := hiSum_bound _ (hvt (i + 1))
    have hc := loSum_bound _ (hvt (i + 1))
    rw [List.length_take] at hb hc
    have hw1 : IntKind.i64.wrap ((i : Int) + 1) = (i : Int) + 1 := wrap_i64 (by omega) (by omega)
    have hw2 : IntKind.i64.wrap (hiSum (l.take i) + (natF r).hi) = hiSum (l.take (i + 1)) := by
      have e : hiSum (l.take (i + 1)) = hiSum (l.take i) + (natF r).hi := by rw [htake, hiSum_snoc]
      rw [← e]; exact wrap_i64 (by omega) (by omega)
    have hw3 : IntKind.i64.wrap (loSum (l.take i) + (natF r).lo) = loSum (l.take (i + 1)) := by
      have e : loSum (l.take (i + 1)) = loSum (l.take i) + (natF r).lo := by rw [htake, loSum_snoc]
      rw [← e]; exact wrap_i64 (by omega) (by omega)
    simp [k32l0, v16, v17, v18, v2, v3, hlt, hr, natD, natC, D.cells, D.one, hfr, Nat.add_assoc, hw1, hw2, hw3]
    refine ⟨k - 1, by omega, _, _, i + 1, rfl, by omega, by simp [v16, natsD], by simp [v17], by simp, by simp, by simp, ?_⟩
    repeat' first | exact hf | apply Heap.Fr.bump | apply Heap.Fr.set
    all_goals (simp <;> omega)
  · simp [k32l0, v17, v18, hlt]
    exact ⟨_, _, i, rfl, by omega, by simp [v16, natsD], by simp [v17], by simp [v18], by simp [v2], by simp [v3], hf.bump _⟩
theorem pyears_run (l : List Rw) {n : Nat} (hn : l.length + 20 ≤ n) : pureCall (rc pg n) 32 [rowsD l] = some (.ret (.tup [D.int (yearsF l).1, D.int (yearsF l).2.1, D.int (yearsF l).2.2])) := by
  obtain ⟨m, rfl, e⟩ := body (pg := pg) (f := 32) (args := [rowsD l]) (show 0 < n by omega) rfl rfl
  rw [e]
  have hnat := fun h => call_of (h := h) (pg := pg) (f := 62) rfl (rows_canon l) (@natures_run l m (by omega))
  simp only [rowsD] at hnat
  by_cases h4 : (natsF l).2 = 0
  · have hv := ok_of h4
    have hl := len_of_ok h4
    have h1 : (natsF l).1 = l.map natF := by
      unfold natsF at h4 ⊢
      split at h4
      · simp at h4
      · split at h4
        · simp at h4
        · split at h4
          · simp at h4
          · rename_i a b c; rw [if_neg a, if_neg b, if_neg c]
    rw [h1, h4] at hnat
    simp [k32, Env.v_ini, rowsD, hnat, ev_loop]
    refine Res.endsAfter (lp_rule 0 (VI l) _ (pyears_round l hl hv) l.length m _ (by omega) ⟨_, _, 0, rfl, by omega, by simp [natsD], by simp, by simp, by simp [loSum], by simp [hiSum], ?_⟩) ?_
    · repeat' first | exact Heap.Fr.empty | apply Heap.Fr.bump | apply Heap.Fr.set
    rintro x s ⟨rfl, x, h, i, rfl, hi, v16, v17, v18, v2, v3, hf⟩
    obtain rfl : i = l.length := by omega
    rw [List.take_length] at v2 v3
    simp [v2, v3, yearsF, h4]
  · have h4' : ((natsF l).2 != 0) = true := by simpa using h4
    simp [k32, Env.v_ini, rowsD, hnat, h4, h4', yearsF]
end Go.Proofs.YtomiigdpggeacaaDoor
/- The thickness of rows. -/
namespace Go.Proofs.YtomiigdpggeacaaDoor
open Go Go.Em
set_option maxRecDepth 100000
def thickF (r : Rw) : Int := (natF r).bed + (natF r).layers.sum
def thSum (l : List Rw) : Int := (l.map thickF).sum
theorem thSum_snoc (l : List Rw) (r : Rw) : thSum (l ++ [r]) = thSum l + thickF r := by simp [thSum]
theorem nat_small (r : Rw) (hv : (natF r).valid = true) : small (natF r).layers ∧ (natF r).layers.length ≤ 2 ∧ 0 ≤ (natF r).bed ∧ (natF r).bed ≤ 100000 ∧ 0 ≤ thickF r ∧ thickF r ≤ 200000 := by
  unfold thickF
  unfold natF at hv ⊢
  unfold small
  refine kinds_cases r _ ?_ ?_ ?_ ?_ ?_ ?_ ?_
  iterate 6
    · intro h
      simp [h, thickB, inB] at hv ⊢
      try omega
  · intro _ _ _ _ _ _ a1 a2 a3 a4 a5 a6
    simp [a1, a2, a3, a4, a5, a6] at hv
theorem thSum_bound : ∀ (l : List Rw), okAll l = true → 0 ≤ thSum l ∧ thSum l ≤ 200000 * l.length
  | [], _ => by simp [thSum]
  | r :: l, h => by
    simp only [okAll, List.all_cons, Bool.and_eq_true] at h
    have h1 := nat_small r h.1
    have h2 := thSum_bound l h.2
    have e : thSum (r :: l) = thickF r + thSum l := by simp [thSum]
    rw [e, List.length_cons]
    omega
theorem okAll_take {l : List Rw} (hv : okAll l = true) (j : Nat) : okAll (l.take j) = true := by
  unfold okAll at hv ⊢
  rw [List.all_eq_true] at hv ⊢
  exact fun a ha => hv a (List.mem_of_mem_take ha)
def WI (l : List Rw) (k : Nat) (s : St) : Prop := ∃ (x : Env 33) (h : Heap) (i : Nat), s = ⟨x.l, h, []⟩ ∧ i + k = l.length ∧ x.v 17 = natsD (l.map natF) ∧ x.v 18 = D.int l.length ∧ x.v 19 = D.int i ∧ x.v 6 = D.int (thSum (l.take i)) ∧ h.Fr
set_option maxHeartbeats 1000000 in
theorem plen_round (l : List Rw) (hl : l.length ≤ 400) (hv : okAll l = true) : ∀ n, 10 ≤ n → ∀ k s, WI l k s → Res (k36l0.ev ⟨pg, 33, none⟩ (rc pg n) s) (Rnd (WI l) (fun x s => x = .exit 0 ∧ WI l 0 s) k) := by
  rintro n hn k s ⟨x, h, i, rfl, hik, v17, v18, v19, v6, hf⟩
  simp only [natsD] at v17
  have hfr : ∀ j, h.raw (h.next + j) = none := fun j => hf _ (by omega)
  by_cases hlt : i < l.length
  · obtain ⟨r, hr⟩ : ∃ r, l[i] = r := ⟨l[i], rfl⟩
    have htake : l.take (i + 1) = l.take i ++ [r] := by rw [List.take_add_one, List.getElem?_eq_getElem hlt, hr]; rfl
    have hval : (natF r).valid = true := by
      unfold okAll at hv
      rw [List.all_eq_true] at hv
      exact hv r (by rw [← hr]; exact List.getElem_mem hlt)
    obtain ⟨q1, q2, q3, q4, q5, q6⟩ := nat_small r hval
    have hb := thSum_bound _ (okAll_take hv (i + 1))
    rw [List.length_take] at hb
    have hsum := @sum_run (natF r).layers (by omega) q1 n (by omega)
    simp only [intsD] at hsum
    have hcl : D.canonL ((natF r).layers.map D.int) = true := canonL_map D.int (fun _ => rfl) _
    have s1 : pg.sh 68 = false := rfl
    have hw1 : IntKind.i64.wrap ((i : Int) + 1) = (i : Int) + 1 := wrap_i64 (by omega) (by omega)
    have hw0 : IntKind.i64.wrap ((natF r).bed + (natF r).layers.sum) = thickF r := wrap_i64 (by unfold thickF at q5; omega) (by unfold thickF at q6; omega)
    have hw2 : IntKind.i64.wrap (thSum (l.take i) + thickF r) = thSum (l.take (i + 1)) := by
      have e : thSum (l.take (i + 1)) = thSum (l.take i) + thickF r := by rw [htake, thSum_snoc]
      rw [← e]; exact wrap_i64 (by omega) (by omega)
    simp [k36l0, v17, v18, v19, v6, hlt, hr, natD, natC, D.cells, D.one, hfr, Nat.add_assoc, hw1, hw0, hw2, dcore_f, s1, hcl, hsum]
    refine ⟨k - 1, by omega, _, _, i + 1, rfl, by omega, by simp [v17, natsD], by simp [v18], by simp, by simp, ?_⟩
    repeat' first | exact hf | apply Heap.Fr.bump | apply Heap.Fr.set
    all_goals (simp <;> omega)
  · simp [k36l0, v18, v19, hlt]
    exact ⟨_, _, i, rfl, by omega, by simp [v17, natsD], by simp [v18], by simp [v19], by simp [v6], hf.bump _⟩
/-- The thickness of rows, or an error. -/
def lenF (l : List Rw) : Int × Int := if (layF l).2 = 0 then (thSum l, 0) else (0, (layF l).2)
theorem lay_ok {l : List Rw} (h : (layF l).2 = 0) : (natsF l).2 = 0 ∧ (natsF l).1.any (·.hides) = false ∧ (layF l).1 = (natsF l).1 := by
  unfold layF at h ⊢
  split at h
  · rename_i a; exact absurd h a
  · rename_i a
    split at h
    · simp at h
    · rename_i b
      rw [if_neg a, if_neg b]
      exact ⟨by simpa using a, by simpa using b, rfl⟩
theorem nats_ok {l : List Rw} (h4 : (natsF l).2 = 0) : (natsF l).1 = l.map natF := by
  unfold natsF at h4 ⊢
  split at h4
  · simp at h4
  · split at h4
    · simp at h4
    · split at h4
      · simp at h4
      · rename_i a b c; rw [if_neg a, if_neg b, if_neg c]
theorem plen_run (l : List Rw) {n : Nat} (hn : l.length + 520 ≤ n) : pureCall (rc pg n) 36 [rowsD l] = some (.ret (.tup [D.int (lenF l).1, D.int (lenF l).2])) := by
  obtain ⟨m, rfl, e⟩ := body (pg := pg) (f := 36) (args := [rowsD l]) (show 0 < n by omega) rfl rfl
  rw [e]
  have hlay := fun h => call_of (h := h) (pg := pg) (f := 67) rfl (rows_canon l) (@layered_run l m (by omega))
  simp only [rowsD, natsD] at hlay
  by_cases h4 : (layF l).2 = 0
  · obtain ⟨a1, a2, a3⟩ := lay_ok h4
    rw [a3, nats_ok a1, h4] at hlay
    simp [k36, Env.v_ini, rowsD, hlay, ev_loop]
    refine Res.endsAfter (lp_rule 10 (WI l) _ (plen_round l (len_of_ok a1) (ok_of a1)) l.length m _ (by omega) ⟨_, _, 0, rfl, by omega, by simp [natsD], by simp, by simp, by simp [thSum], ?_⟩) ?_
    · repeat' first | exact Heap.Fr.empty | apply Heap.Fr.bump | apply Heap.Fr.set
    rintro x s ⟨rfl, x, h, i, rfl, hi, v17, v18, v19, v6, hf⟩
    obtain rfl : i = l.length := by omega
    rw [List.take_length] at v6
    simp [v6, lenF, h4]
  · have h4' : ((layF l).2 != 0) = true := by simpa using h4
    simp [k36, Env.v_ini, rowsD, hlay, h4, h4', lenF]
end Go.Proofs.YtomiigdpggeacaaDoor
/- The thickness of rows, by the document. -/
namespace Go.Proofs.YtomiigdpggeacaaDoor
open Go Go.Em
set_option maxRecDepth 100000
def hid (l : List Rw) : Bool := l.any fun r => (natF r).hides
def XI (l : List Rw) (k : Nat) (s : St) : Prop := ∃ (x : Env 50) (h : Heap) (i : Nat), s = ⟨x.l, h, []⟩ ∧ i + k = l.length ∧ x.v 0 = rowsD l ∧ x.v 8 = D.int i ∧ x.v 7 = D.int (thSum (l.take i)) ∧ hid (l.take i) = false
def XQ (l : List Rw) (x : Ex) (s : St) : Prop := (x = .exit 0 ∧ XI l 0 s) ∨ (x = .ret ∧ hid l = true ∧ ∃ (x : Env 50) (h : Heap), s = ⟨x.l, h, []⟩ ∧ x.v 2 = D.int 0 ∧ x.v 3 = D.int 13)
theorem hid_is {l : List Rw} (h4 : (natsF l).2 = 0) : (natsF l).1.any (·.hides) = hid l := by
  rw [nats_ok h4]; unfold hid; rw [List.any_map]; rfl
end Go.Proofs.YtomiigdpggeacaaDoor
