/- The law on rows, marks and places. -/
import Derived.Test.YtomiigdpggeacaaDoorMarks
namespace Go.Proofs.YtomiigdpggeacaaDoor
open Go Go.Em
set_option maxRecDepth 100000
def intsD (l : List Int) : D := .sl false (l.map D.int)
def SI (l : List Int) (k : Nat) (s : St) : Prop := ∃ (x : Env 31) (h : Heap) (i : Nat), s = ⟨x.l, h, []⟩ ∧ i + k = l.length ∧ x.v 0 = intsD l ∧ x.v 1 = intsD l ∧ x.v 5 = D.bool true ∧ x.v 6 = D.int i
theorem shMarks_len (i r c : Int) (l : List Rw) : (shMarks i r c l).length ≤ 400 := by
  unfold shMarks
  split
  · rename_i h0
    have := marks_len c l
    have hl : l.length ≤ 400 := by
      apply len_of_ok
      unfold chkF at h0
      split at h0
      · omega
      · split at h0
        · rename_i h1; exact absurd h0 h1
        · rename_i h1; simpa using h1
    omega
  · simp
end Go.Proofs.YtomiigdpggeacaaDoor
/- Numbers that choose; the years of a row. -/
namespace Go.Proofs.YtomiigdpggeacaaDoor
open Go Go.Em
set_option maxRecDepth 100000
/-- The choice among so many. -/
def pickF (l : List Int) (taken : Nat) (cand : Int) : Int := if l = [] ∨ cand < 1 then 0 else l.getD (taken % l.length) 0 % cand
theorem index_run (l : List Int) (taken : Nat) (cand : Int) (hc : cand ≤ 1000000) {n : Nat} (hn : 1 ≤ n) : pureCall (rc pg n) 65 [intsD l, D.int taken, D.int cand] = some (.ret (D.int (pickF l taken cand))) := by
  obtain ⟨m, rfl, e⟩ := body (pg := pg) (f := 65) (args := [intsD l, D.int taken, D.int cand]) (show 0 < n by omega) rfl rfl
  rw [e]
  by_cases h0 : l.length = 0
  · have hl : l = [] := List.eq_nil_of_length_eq_zero h0
    subst hl
    simp [k65, Env.v_ini, intsD, pickF]
  · have hl : l ≠ [] := fun h => h0 (by rw [h]; rfl)
    have h0' : ((l.length : Int) == 0) = false := by simp; exact hl
    have h0n : (l.length : Int) ≠ 0 := by omega
    by_cases h1 : cand < 1
    · simp [k65, Env.v_ini, intsD, pickF, h0', h1]
    · obtain ⟨j, hj⟩ : ∃ j, j = taken % l.length := ⟨_, rfl⟩
      have hlt : j < l.length := by rw [hj]; exact Nat.mod_lt _ (by omega)
      have ht : (taken : Int).tmod (l.length : Int) = (j : Int) := by rw [hj, Int.tmod_eq_emod_of_nonneg (by omega)]; omega
      obtain ⟨p, hp⟩ : ∃ p, l[j] = p := ⟨_, rfl⟩
      have hcn : cand ≠ 0 := by omega
      have hg : l.getD (taken % l.length) 0 = p := by rw [← hj, List.getD_eq_getElem?_getD, List.getElem?_eq_getElem hlt, hp]; rfl
      have hg' : l[taken % l.length]?.getD 0 = p := by rw [← List.getD_eq_getElem?_getD]; exact hg
      have hm1 := Int.emod_nonneg p hcn
      have hm2 := Int.emod_lt_of_pos p (show 0 < cand by omega)
      by_cases h2 : p.tmod cand < 0
      · have hr : IntKind.i64.wrap (p.tmod cand + cand) = p % cand := by
          have := Int.tmod_eq_emod (a := p) (b := cand)
          have hna : (cand.natAbs : Int) = cand := by omega
          rw [this] at h2 ⊢
          split at h2
          · omega
          · rename_i h3; rw [if_neg h3, hna, wrap_i64 (by omega) (by omega)]; omega
        simp [k65, Env.v_ini, intsD, pickF, h0', h1, hl, bin_rem, ht, hlt, hp, hcn, D.cells, h2, hr, hg']
      · have hr : p.tmod cand = p % cand := by
          have := Int.tmod_eq_emod (a := p) (b := cand)
          have hna : (cand.natAbs : Int) = cand := by omega
          rw [this] at h2 ⊢
          split
          · omega
          · rename_i h3; rw [if_neg h3] at h2; omega
        have h2' : ¬ p % cand < 0 := by omega
        simp [k65, Env.v_ini, intsD, pickF, h0', h1, hl, bin_rem, ht, hlt, hp, hcn, D.cells, hr, hg', h2']
theorem zeros_one (v : Value) : ∀ n, zerosD [v] 1 n = List.replicate n (.val v) := by
  intro n
  unfold zerosD
  apply List.ext_getElem
  · simp
  · intro i h1 h2
    simp
    have : i % 1 = 0 := Nat.mod_one i
    simp [this]
/-- A sum, as it stands behind so many numbers. -/
def UI (l : List Int) (k : Nat) (s : St) : Prop := ∃ (x : Env 17) (h : Heap) (i : Nat), s = ⟨x.l, h, []⟩ ∧ i + k = l.length ∧ x.v 4 = intsD l ∧ x.v 5 = D.int l.length ∧ x.v 6 = D.int i ∧ x.v 2 = D.int (l.take i).sum
end Go.Proofs.YtomiigdpggeacaaDoor
/- Sums; rows that hide nothing. -/
namespace Go.Proofs.YtomiigdpggeacaaDoor
open Go Go.Em
set_option maxRecDepth 100000
def UJ (l : List Int) (k : Nat) (s : St) : Prop := ∃ (x : Env 17) (h : Heap) (i : Nat), s = ⟨x.l, h, []⟩ ∧ i + k = l.length ∧ x.v 6 = intsD l ∧ x.v 7 = D.int l.length ∧ x.v 8 = D.int i ∧ x.v 3 = D.int (l.take i).sum
def small (l : List Int) : Prop := ∀ a ∈ l, 0 ≤ a ∧ a ≤ 1000000
theorem small_sum : ∀ l : List Int, small l → 0 ≤ l.sum ∧ l.sum ≤ 1000000 * l.length
  | [], _ => by simp
  | a :: l, h => by
    have h1 := h a (by simp)
    have h2 := small_sum l fun b hb => h b (by simp [hb])
    rw [List.sum_cons, List.length_cons]
    omega
theorem sum_round (l : List Int) (hl : l.length ≤ 1000) (hs : small l) : ∀ n, 0 ≤ n → ∀ k s, UJ l k s → Res (k68l0.ev ⟨pg, 17, none⟩ (rc pg n) s) (Rnd (UJ l) (fun x s => x = .exit 0 ∧ UJ l 0 s) k) := by
  rintro n hn k s ⟨x, h, i, rfl, hik, v6, v7, v8, v3⟩
  simp only [intsD] at v6
  by_cases hlt : i < l.length
  · obtain ⟨r, hr⟩ : ∃ r, l[i] = r := ⟨l[i], rfl⟩
    have hw1 : IntKind.i64.wrap ((i : Int) + 1) = (i : Int) + 1 := wrap_i64 (by omega) (by omega)
    have htake : l.take (i + 1) = l.take i ++ [r] := by rw [List.take_add_one, List.getElem?_eq_getElem hlt, hr]; rfl
    have hb := small_sum (l.take (i + 1)) fun a ha => hs a (List.mem_of_mem_take ha)
    rw [List.length_take] at hb
    have hw2 : IntKind.i64.wrap ((l.take i).sum + r) = (l.take (i + 1)).sum := by
      have e : (l.take (i + 1)).sum = (l.take i).sum + r := by rw [htake]; simp
      rw [← e]; exact wrap_i64 (by omega) (by omega)
    simp [k68l0, v6, v7, v8, v3, hlt, hr, D.cells, hw1, hw2]
    exact ⟨k - 1, by omega, _, _, i + 1, rfl, by omega, by simp [v6, intsD], by simp [v7], by simp, by simp⟩
  · simp [k68l0, v7, v8, hlt]
    exact ⟨_, _, i, rfl, by omega, by simp [v6, intsD], by simp [v7], by simp [v8], by simp [v3]⟩
theorem sum_run (l : List Int) (hl : l.length ≤ 1000) (hs : small l) {n : Nat} (hn : l.length + 5 ≤ n) : pureCall (rc pg n) 68 [intsD l] = some (.ret (D.int l.sum)) := by
  obtain ⟨m, rfl, e⟩ := body (pg := pg) (f := 68) (args := [intsD l]) (show 0 < n by omega) rfl rfl
  rw [e]
  simp [k68, Env.v_ini, intsD, ev_loop]
  refine Res.endsAfter (lp_rule 0 (UJ l) _ (sum_round l hl hs) l.length m _ (by omega) ⟨_, _, 0, rfl, by omega, by simp [intsD], by simp, by simp, by simp⟩) ?_
  rintro x s ⟨rfl, x, h, i, rfl, hi, v6, v7, v8, v3⟩
  obtain rfl : i = l.length := by omega
  rw [List.take_length] at v3
  simp [v3]
theorem natD_canon (t : Nt) : (natD t).canon = true := by
  simp only [natD, natC, D.canonL, D.canon, Bool.and_true, Bool.not_false, Bool.true_and]
  exact canonL_map _ (fun _ => rfl) _
theorem hides_run {n : Nat} (hn : 1 ≤ n) (t : Nt) : pureCall (rc pg n) 92 [natD t] = some (.ret (D.bool t.hides)) := by
  obtain ⟨m, rfl, e⟩ := body (pg := pg) (f := 92) (args := [natD t]) (show 0 < n by omega) rfl rfl
  rw [e]
  simp [k92, Env.v_ini, natD, natC, D.cells, D.one]
def natsD (l : List Nt) : D := .sl false (l.map natD)
def hidF : D := .fn (.func 92) [] []
/-- A search: none so far. -/
def FI (l : List Nt) (k : Nat) (s : St) : Prop := ∃ (x : Env 19) (h : Heap) (i : Nat), s = ⟨x.l, h, []⟩ ∧ i + k = l.length ∧ x.v 0 = natsD l ∧ x.v 1 = hidF ∧ x.v 7 = D.int l.length ∧ x.v 8 = D.int i ∧ (l.take i).any (·.hides) = false
def FQ (l : List Nt) (x : Ex) (s : St) : Prop := (x = .exit 0 ∧ FI l 0 s) ∨ (x = .ret ∧ l.any (·.hides) = true ∧ ∃ (x : Env 19) (h : Heap) (i : Nat), s = ⟨x.l, h, []⟩ ∧ x.v 4 = D.int i)
theorem find_round (l : List Nt) (hl : l.length ≤ 400) : ∀ n, 2 ≤ n → ∀ k s, FI l k s → Res (k114l0.ev ⟨pg, 19, none⟩ (rc pg n) s) (Rnd (FI l) (FQ l) k) := by
  rintro n hn k s ⟨x, h, i, rfl, hik, v0, v1, v7, v8, hv⟩
  simp only [natsD] at v0
  simp only [hidF] at v1
  by_cases hlt : i < l.length
  · obtain ⟨r, hr⟩ : ∃ r, l[i] = r := ⟨l[i], rfl⟩
    have hw1 : IntKind.i64.wrap ((i : Int) + 1) = (i : Int) + 1 := wrap_i64 (by omega) (by omega)
    have htake : l.take (i + 1) = l.take i ++ [r] := by rw [List.take_add_one, List.getElem?_eq_getElem hlt, hr]; rfl
    have hc : D.canonL [natD r] = true := by simp [natD_canon]
    have j1 := fun h => call_of (h := h) (pg := pg) (f := 92) rfl hc (@hides_run n (by omega) r)
    have hcell : (natD r).cells = natC r := rfl
    have hnl : (natC r).length = 7 := rfl
    have htk : (natC r).take 7 = natC r := rfl
    simp only [natD] at j1
    by_cases hh : r.hides = true
    · simp [k114l0, v0, v1, v7, v8, hlt, hr, hcell, hnl, htk, j1, hh]
      exact .inr ⟨rfl, by rw [List.any_eq_true]; exact ⟨r, by rw [← hr]; exact List.getElem_mem hlt, hh⟩, _, _, i, rfl, by simp⟩
    · simp [k114l0, v0, v1, v7, v8, hlt, hr, hcell, hnl, htk, j1, hh, hw1]
      exact ⟨k - 1, by omega, _, _, i + 1, rfl, by omega, by simp [v0, natsD], by simp [v1, hidF], by simp [v7], by simp, by rw [htake, List.any_append, hv]; simp [hh]⟩
  · simp [k114l0, v7, v8, hlt]
    exact .inl ⟨rfl, _, _, i, rfl, by omega, by simp [v0, natsD], by simp [v1, hidF], by simp [v7], by simp [v8], hv⟩
theorem find_run (l : List Nt) (hl : l.length ≤ 400) {n : Nat} (hn : l.length + 10 ≤ n) : ∃ d : Int, pureCall (rc pg n) 114 [natsD l, hidF] = some (.ret (D.int d)) ∧ decide (d ≥ 0) = l.any (·.hides) := by
  obtain ⟨m, rfl, e⟩ := body (pg := pg) (f := 114) (args := [natsD l, hidF]) (show 0 < n by omega) rfl rfl
  rw [e]
  obtain ⟨x, s, e1, hq⟩ := lp_rule 2 (FI l) (FQ l) (find_round l hl) l.length m { e := ((((Env.ini 19 [natsD l, hidF]).upd 4 (D.int 0)).upd 6 (natsD l)).upd 7 (D.int l.length)).upd 8 (D.int 0) |>.l, h := (Heap.empty.bump 19).bump 19, df := [] } (by omega)
    ⟨_, _, 0, rfl, by omega, by simp [Env.v_ini], by simp [Env.v_ini], by simp, by simp, rfl⟩
  simp only [natsD, hidF] at e1 ⊢
  simp [k114, Env.v_ini, ev_loop, e1]
  rcases hq with ⟨rfl, x, h, i, rfl, hi, v0, v1, v7, v8, hv⟩ | ⟨rfl, ha, x, h, i, rfl, v4⟩
  · obtain rfl : i = l.length := by omega
    rw [List.take_length] at hv
    exact ⟨-1, by simp, by simpa using hv⟩
  · exact ⟨i, by simp [v4], by simpa using ha⟩
end Go.Proofs.YtomiigdpggeacaaDoor
