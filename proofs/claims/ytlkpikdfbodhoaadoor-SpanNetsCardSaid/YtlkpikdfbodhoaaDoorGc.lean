/- The same for a list without a room of its own: Compact, and rising numbers. -/
import Derived.Test.YtlkpikdfbodhoaaDoorQv1
namespace Go.Proofs.YtlkpikdfbodhoaaDoor
open Go Go.Em
set_option maxRecDepth 100000
def qCnI (S : List Int) (i0 kb N : Nat) (cap4 : Option Nat) (h0 : Heap) (k : Nat) (s : St) : Prop := ∃ (x : Env 61) (h : Heap) (j : Nat), s = ⟨x.l, h, []⟩ ∧ i0 + j + k = N ∧ 1 ≤ j ∧ x.v 0 = .slr kb 0 N 1 none ∧ x.v 3 = D.int ((dk S (i0 + j)).length : Nat) ∧ x.v 4 = .slr kb i0 (N - i0) 1 cap4 ∧ x.v 5 = D.int j ∧ (dk S (i0 + j)).length < i0 + j ∧ SD kb (cpL S (i0 + j)).toArray h0 h
def qCnQ (S : List Int) (kb N : Nat) (h0 : Heap) (x : Ex) (s : St) : Prop := x = .exit 2 ∧ ∃ (x : Env 61) (h : Heap), s = ⟨x.l, h, []⟩ ∧ x.v 0 = .slr kb 0 N 1 none ∧ x.v 3 = D.int ((dk S N).length : Nat) ∧ SD kb (cpL S N).toArray h0 h
set_option maxHeartbeats 8000000 in
theorem cin_round (S : List Int) (i0 kb N : Nat) (hS : S.length = N) (hN : N ≤ 1000000) (cap4 : Option Nat) (h0 : Heap) : ∀ n, 2 ≤ n → ∀ k s, qCnI S i0 kb N cap4 h0 k s → Res (k105l0.ev ⟨pg, 61, none⟩ (rc pg n) s) (Rnd (qCnI S i0 kb N cap4 h0) (qCnQ S kb N h0) k) := by
  rintro n hn k s ⟨x, h, j, rfl, hk, hj1, v0, v3, v4, v5, hlt, sd⟩
  have g := sd.g
  by_cases hc : j < N - i0
  · obtain ⟨p, hp⟩ : ∃ p, p = i0 + j := ⟨_, rfl⟩
    rw [← hp] at v3 hlt sd g hk
    obtain ⟨j1, hj1'⟩ : ∃ j1, j1 = j - 1 := ⟨_, rfl⟩
    have w1 : IntKind.i64.wrap ((j : Int) - 1) = (j1 : Int) := wn (by omega) (by omega)
    have w2 : IntKind.i64.wrap ((j : Int) + 1) = ((j + 1 : Nat) : Int) := wn (by omega) (by omega)
    obtain ⟨m, hm⟩ : ∃ m, m = (dk S p).length := ⟨_, rfl⟩
    rw [← hm] at v3 hlt
    have w3 : IntKind.i64.wrap ((m : Int) + 1) = ((m + 1 : Nat) : Int) := wn (by omega) (by omega)
    have hcl : (cpL S p).length = N := by rw [cp_len (by omega), hS]
    have a1 : (cpL S p)[p]? = some (S.getD p 0) := by rw [cp_at (by omega), List.getElem?_eq_getElem (by omega)]; simp [List.getD, List.getElem?_eq_getElem (show p < S.length by omega)]
    have a2 : (cpL S p)[p - 1]? = some (S.getD (p - 1) 0) := by rw [cp_at (by omega), List.getElem?_eq_getElem (by omega)]; simp [List.getD, List.getElem?_eq_getElem (show p - 1 < S.length by omega)]
    obtain ⟨va, hva⟩ : ∃ v, v = S.getD p 0 := ⟨_, rfl⟩
    obtain ⟨vb, hvb⟩ : ∃ v, v = S.getD (p - 1) 0 := ⟨_, rfl⟩
    rw [← hva] at a1
    rw [← hvb] at a2
    obtain ⟨C, hC⟩ : ∃ C, C = (cpL S p).map D.int := ⟨_, rfl⟩
    have hl : C.length = N := by rw [hC, List.length_map, hcl]
    have f1 : C[i0 + j]? = some (D.int va) := by rw [← hp, hC, List.getElem?_map, a1]; rfl
    have f2 : C[i0 + j1]? = some (D.int vb) := by rw [show i0 + j1 = p - 1 by omega, hC, List.getElem?_map, a2]; rfl
    have gC : h.get kb = some (.cells 3 C) := by rw [hC]; exact g
    have f1' : C[i0 + j]?.getD D.junk = D.int va := by rw [f1]; rfl
    have f2' : C[i0 + j1]?.getD D.junk = D.int vb := by rw [f2]; rfl
    have e1 : ∀ h' : i0 + j < C.length, C[i0 + j]'h' = D.int va := fun h' => by have := List.getElem?_eq_getElem h'; rw [f1] at this; exact (Option.some.inj this).symm
    have e2 : ∀ h' : i0 + j1 < C.length, C[i0 + j1]'h' = D.int vb := fun h' => by have := List.getElem?_eq_getElem h'; rw [f2] at this; exact (Option.some.inj this).symm
    have l1 : i0 + j < N := by omega
    have l2 : i0 + j1 < N := by omega
    have l3 : i0 + j + 1 ≤ N := by omega
    have l4 : i0 + j1 + 1 ≤ N := by omega
    have l5 : m < N := by omega
    have l6 : m + 1 ≤ N := by omega
    have l7 : j1 < N - i0 := by omega
    have hcI : (j : Int) < ((N - i0 : Nat) : Int) := by omega
    by_cases hv : va = vb
    · have hb : (va != vb) = false := by simp [hv]
      have hsame : cpL S (p + 1) = cpL S p := cp_same (by omega) (by rw [← hva, ← hvb, hv])
      have hdk : (dk S (p + 1)).length = m := by rw [dk_dup (by omega) (by rw [← hva, ← hvb, hv]), hm]
      simp [-bne_iff_ne, -bne_eq_false_iff_eq, k105l0, v4, v5, hc, w1, w2, hb, gC, hl, e1, e2, l1, l2, l3, l4, l7]
      exact ⟨k - 1, by omega, _, _, j + 1, rfl, by omega, by omega, by simp [v0], by rw [← Nat.add_assoc, ← hp, hdk]; simp [v3], by simp [v4], by simp, by rw [← Nat.add_assoc, ← hp, hdk]; omega, by rw [← Nat.add_assoc, ← hp, hsame]; repeat' first | exact sd | refine SD.bump ?_ _⟩
    · have hb : (va != vb) = true := by simp [hv]
      have hput := cp_put (S := S) (p := p) (by omega) (by omega) (by rw [← hva, ← hvb]; exact hv)
      rw [← hm, ← hva] at hput
      have hdk : (dk S (p + 1)).length = m + 1 := by rw [dk_new (by rw [← hva, ← hvb]; exact hv), List.length_append, ← hm]; rfl
      obtain ⟨C1, hC1⟩ : ∃ C1, C1 = (cpL S (p + 1)).map D.int := ⟨_, rfl⟩
      have p1 : C.take m ++ D.int va :: C.drop (m + 1) = C1 := by
        rw [hC1, ← hput, List.map_set, ← hC, List.set_eq_take_append_cons_drop, if_pos (by omega)]
      simp [-bne_iff_ne, -bne_eq_false_iff_eq, k105l0, v0, v3, v4, v5, hc, w1, w2, w3, hb, D.cells, D.one, gC, hl, e1, e2, l1, l2, l3, l4, l5, l6, l7, p1]
      exact ⟨k - 1, by omega, _, _, j + 1, rfl, by omega, by omega, by simp [v0], by rw [← Nat.add_assoc, ← hp, hdk]; simp, by simp [v4], by simp, by rw [← Nat.add_assoc, ← hp, hdk]; omega, by rw [← Nat.add_assoc, ← hp]; repeat' first | exact sd | refine SD.bump ?_ _ | refine SD.setL (d := (cpL S p).toArray) (d' := (cpL S (p + 1)).toArray) ?_ hC1⟩
  · simp [k105l0, v4, v5, hc]
    have hpN : i0 + j = N := by omega
    rw [hpN] at v3 sd
    exact ⟨rfl, _, _, rfl, by simp [v0], by simp [v3], sd.bump _⟩
theorem sln_lo {kb N i : Nat} (h1 : i < N) : sliceR kb 0 1 none (i : Int) (N : Int) none (upTo none N 0 1 N) = some (.slr kb i (N - i) 1 none) := by
  unfold sliceR
  have e1 : ¬ ((i : Int) = N ∧ 0 < (i : Int)) := by omega
  have e2 : (decide (0 ≤ (i : Int)) && decide ((i : Int) ≤ N) && upTo none N 0 1 N N && mxOk N (upTo none N 0 1 N) none) = true := by
    unfold upTo mxOk; simp; omega
  rw [if_pos e2]
  simp [mxCap]
  omega
theorem sln_hi {kb N m : Nat} (h1 : m ≤ N) : sliceR kb 0 1 none 0 (m : Int) none (upTo none N 0 1 N) = some (.slr kb 0 m 1 none) := by
  unfold sliceR
  have e1 : ¬ ((0 : Int) = m ∧ (0 : Int) < 0) := by omega
  have e2 : (decide ((0 : Int) ≤ 0) && decide ((0 : Int) ≤ m) && upTo none N 0 1 N m && mxOk m (upTo none N 0 1 N) none) = true := by
    unfold upTo mxOk; simp; omega
  rw [if_pos e2]
  simp [mxCap]
def qCnO (S : List Int) (kb N : Nat) (h0 : Heap) (k : Nat) (s : St) : Prop := ∃ (x : Env 61) (h : Heap) (i : Nat), s = ⟨x.l, h, []⟩ ∧ i + k = N ∧ 1 ≤ i ∧ x.v 0 = .slr kb 0 N 1 none ∧ x.v 3 = D.int i ∧ (∀ t, 1 ≤ t → t < i → S.getD t 0 ≠ S.getD (t - 1) 0) ∧ SD kb S.toArray h0 h
def qCnR (S : List Int) (kb N : Nat) (h0 : Heap) (x : Ex) (s : St) : Prop := ∃ (y : Env 61) (h : Heap), s = ⟨y.l, h, []⟩ ∧ qCpF S kb N h0 h ∧ ((x = .exit 0 ∧ y.v 0 = .slr kb 0 N 1 none ∧ (dk S N).length = N) ∨ (x = .ret ∧ y.v 2 = .slr kb 0 (dk S N).length 1 none))
set_option maxHeartbeats 16000000 in
theorem con_round (S : List Int) (kb N : Nat) (hS : S.length = N) (hN : N ≤ 1000000) (h0 : Heap) : ∀ n, N + 20 ≤ n → ∀ k s, qCnO S kb N h0 k s → Res (k105l1.ev ⟨pg, 61, none⟩ (rc pg n) s) (Rnd (qCnO S kb N h0) (qCnR S kb N h0) k) := by
  rintro n hn k s ⟨x, h, i, rfl, hk, hi1, v0, v3, hnd, sd⟩
  have g := sd.g
  by_cases hc : i < N
  · obtain ⟨u, hu⟩ : ∃ u, u = i - 1 := ⟨_, rfl⟩
    have w1 : IntKind.i64.wrap ((i : Int) - 1) = (u : Int) := wn (by omega) (by omega)
    have w2 : IntKind.i64.wrap ((i : Int) + 1) = ((i + 1 : Nat) : Int) := wn (by omega) (by omega)
    obtain ⟨va, hva⟩ : ∃ v, v = S.getD i 0 := ⟨_, rfl⟩
    obtain ⟨vb, hvb⟩ : ∃ v, v = S.getD (i - 1) 0 := ⟨_, rfl⟩
    obtain ⟨C, hC⟩ : ∃ C, C = S.map D.int := ⟨_, rfl⟩
    have hl : C.length = N := by rw [hC, List.length_map, hS]
    have f1 : C[i]? = some (D.int va) := by rw [hC, hva, List.getElem?_map, List.getElem?_eq_getElem (by omega)]; simp [List.getD, List.getElem?_eq_getElem (show i < S.length by omega)]
    have f2 : C[u]? = some (D.int vb) := by rw [hC, hvb, hu, List.getElem?_map, List.getElem?_eq_getElem (by omega)]; simp [List.getD, List.getElem?_eq_getElem (show i - 1 < S.length by omega)]
    have gC : h.get kb = some (.cells 3 C) := by rw [hC]; exact g
    have f1' : C[i]?.getD D.junk = D.int va := by rw [f1]; rfl
    have f2' : C[u]?.getD D.junk = D.int vb := by rw [f2]; rfl
    have e1 : ∀ h' : i < C.length, C[i]'h' = D.int va := fun h' => by have := List.getElem?_eq_getElem h'; rw [f1] at this; exact (Option.some.inj this).symm
    have e2 : ∀ h' : u < C.length, C[u]'h' = D.int vb := fun h' => by have := List.getElem?_eq_getElem h'; rw [f2] at this; exact (Option.some.inj this).symm
    have l2 : u < N := by omega
    have l3 : i + 1 ≤ N := by omega
    have l4 : u + 1 ≤ N := by omega
    by_cases hv : va = vb
    · have hb : (va == vb) = true := by simp [hv]
      have s1 := sln_lo (kb := kb) (i := i) hc
      have hdk0 := dk_all S i (by omega) hnd
      have hdl0 : (dk S i).length = i := by rw [hdk0, List.length_take]; omega
      have hdk1 : dk S (i + 1) = dk S i := dk_dup (by omega) (by rw [← hva, ← hvb, hv])
      have hcp : cpL S (i + 1) = S := by unfold cpL; rw [hdk1, hdl0, hdk0, List.take_append_drop]
      simp [-beq_iff_eq, -beq_eq_false_iff_ne, k105l1, v0, v3, hc, w1, hb, gC, hl, e1, e2, l2, l3, l4, s1, ev_loop]
      refine Res.qe (lp_rule 2 (qCnI S i kb N none h0) _ (cin_round S i kb N hS hN none h0) (N - i - 1) n _ (by omega) ⟨_, _, 1, rfl, by omega, by omega, by simp [v0], by rw [hdk1, hdl0]; simp [v3], by simp, by simp, by rw [hdk1, hdl0]; omega, by rw [hcp]; repeat' first | exact sd | refine SD.bump ?_ _⟩) ?_
      rintro x1 s1 ⟨rfl, y, h1, rfl, y0, y3, sd1⟩
      have hm1 : (dk S N).length < N := by
        have := dk_add S (i + 1) (N - (i + 1))
        rw [show i + 1 + (N - (i + 1)) = N by omega, hdk1, hdl0] at this
        omega
      have g1 := sd1.g
      obtain ⟨m, hm⟩ : ∃ m, m = (dk S N).length := ⟨_, rfl⟩
      rw [← hm] at y3 hm1
      obtain ⟨C', hC'⟩ : ∃ C, C = (cpL S N).map D.int := ⟨_, rfl⟩
      have hl' : C'.length = N := by rw [hC', List.length_map, cp_len (by omega), hS]
      have gC' : h1.get kb = some (.cells 3 C') := by rw [hC']; exact g1
      have t1 := sln_lo (kb := kb) hm1
      have t2 := sln_hi (kb := kb) (m := m) (Nat.le_of_lt hm1) 
      have t3 : ¬ (N - m = 0) := by omega
      have t4 : m + (N - m) = N := by omega
      have t5 : C'.drop N = [] := List.drop_of_length_le (by omega)
      obtain ⟨Z, hZ⟩ : ∃ Z, Z = List.replicate (N - m) (0 : Int) := ⟨_, rfl⟩
      obtain ⟨C2, hC2⟩ : ∃ C2, C2 = (dk S N ++ Z).map D.int := ⟨_, rfl⟩
      have hZl : (dk S N ++ Z).length = N := by rw [List.length_append, ← hm, hZ, List.length_replicate]; omega
      have hl2 : C2.length = N := by rw [hC2, List.length_map, hZl]
      have t6 : C'.take m ++ zerosD [.int .i64 0] 1 (N - m) = C2 := by
        rw [hC2, List.map_append, hZ, List.map_replicate, zer_rep, hC', cpL, List.map_append, hm]
        congr 1
        rw [List.take_append_of_le_length (by simp), List.take_of_length_le (by simp)]
      simp [y0, y3, gC', hl', t1, t2, t3, t4, t5, t6, hl2]
      exact ⟨_, _, rfl, ⟨Z, hZl, by repeat' first | exact sd1 | refine SD.bump ?_ _ | refine SD.setL (d := (cpL S N).toArray) (d' := (dk S N ++ Z).toArray) ?_ hC2⟩, .inr ⟨rfl, by simp [hm]⟩⟩
    · have hb : (va == vb) = false := by simp [hv]
      simp [-beq_iff_eq, -beq_eq_false_iff_ne, k105l1, v0, v3, hc, w1, w2, hb, gC, hl, e1, e2, l2, l3, l4]
      exact ⟨k - 1, by omega, _, _, i + 1, rfl, by omega, by omega, by simp [v0], by simp, fun t h1 h2 => by
        by_cases ht : t = i
        · rw [ht, ← hva, ← hvb]; exact hv
        · exact hnd t h1 (by omega), by repeat' first | exact sd | refine SD.bump ?_ _⟩
  · have hiN : i = N := by omega
    subst hiN
    have hdk0 := dk_all S i (by omega) hnd
    have hall : dk S i = S := by rw [hdk0, List.take_of_length_le (by omega)]
    simp [k105l1, v0, v3]
    exact ⟨_, _, rfl, ⟨[], by rw [hall]; simpa using hS, by rw [hall, List.append_nil]; exact sd.bump _⟩, .inl ⟨rfl, by simp [v0], by rw [hall]; exact hS⟩⟩
set_option maxHeartbeats 8000000 in
theorem compactn_sh {kb : Nat} {S : List Int} {h : Heap} (hg : h.get kb = some (.cells 3 (S.map D.int))) (hk : kb < h.next) (hf : h.Fr) {N : Nat} (hS : S.length = N) (hN : N ≤ 1000000) {n : Nat} (hn : 2 * N + 40 ≤ n) :
    ∃ h', (rc pg n).fn 105 [.slr kb 0 N 1 none] h = some (.ret (.slr kb 0 (dk S N).length 1 none), h') ∧ qCpF S kb N h h' := by
  obtain ⟨m, rfl, e⟩ := fn_body (pg := pg) (f := 105) (args := [.slr kb 0 N 1 none]) (h := h) (show 0 < n by omega) rfl rfl
  rw [e]
  have hg' : h.get kb = some (.cells 3 (S.toArray.toList.map D.int)) := hg
  have sd := SD.refl hg' hk hf
  by_cases h2 : N < 2
  · have h2' : (N : Int) < 2 := by omega
    have hall : dk S N = S := by rw [dk_all S N (by omega) (fun t h1 h3 => by omega), List.take_of_length_le (by omega)]
    simp [k105, Env.v_ini, h2']
    exact ⟨_, ⟨by rw [hall]; exact hS.symm, rfl⟩, [], by rw [hall]; simpa using hS, by rw [hall, List.append_nil]; repeat' first | exact sd | refine SD.bump ?_ _⟩
  · have h2' : ¬ (N : Int) < 2 := by omega
    simp [k105, Env.v_ini, h2', ev_loop]
    refine Res.fin3 (lp_rule (N + 20) (qCnO S kb N h) _ (con_round S kb N hS hN h) (N - 1) m _ (by omega) ⟨_, _, 1, rfl, by omega, by omega, by simp [Env.v_ini], by simp, fun t h1 h3 => by omega, by repeat' first | exact sd | refine SD.bump ?_ _⟩) ?_
    rintro x s ⟨y, h', rfl, ⟨Z, hZ, sdZ⟩, (⟨rfl, y0, hl⟩ | ⟨rfl, y2⟩)⟩
    · simp [y0]
      exact ⟨_, ⟨hl.symm, rfl⟩, Z, hZ, by repeat' first | exact sdZ | refine SD.bump ?_ _⟩
    · simp [y2]
      exact ⟨Z, hZ, by repeat' first | exact sdZ | refine SD.bump ?_ _⟩
set_option maxHeartbeats 8000000 in
theorem risingn_sh {kb : Nat} {l : List Int} {h : Heap} (hg : h.get kb = some (.cells 3 (l.map D.int))) (hk : kb < h.next) (hf : h.Fr) {N : Nat} (hS : l.length = N) (hN : N ≤ 1000000) {n : Nat} (hn : (N + 1) * (3 * N + 201) + 60 ≤ n) :
    ∃ h' Z, (rc pg n).fn 72 [.slr kb 0 N 1 none] h = some (.ret (.slr kb 0 (rsL l).length 1 none), h') ∧ (rsL l ++ Z).length = N ∧ SD kb (rsL l ++ Z).toArray h h' := by
  obtain ⟨m, rfl, e⟩ := fn_body (pg := pg) (f := 72) (args := [.slr kb 0 N 1 none]) (h := h) (show 0 < n by omega) rfl rfl
  rw [e]
  have hF : 3 * N + 201 ≤ (N + 1) * (3 * N + 201) := Nat.le_mul_of_pos_left _ (by omega)
  have hg' : h.get kb = some (.cells 3 (l.toArray.toList.map D.int)) := hg
  have sd := SD.refl hg' hk hf
  obtain ⟨H1, hH1⟩ : ∃ H, H = (h.bump 7).bump 7 := ⟨_, rfl⟩
  have sd1 : SD kb l.toArray h H1 := hH1 ▸ (sd.bump 7).bump 7
  obtain ⟨h1, r1, sd2⟩ := sort_sh (l := l) sd1.g (by have := sd1.n; have := sd1.k; omega) sd1.fr hS hN none (n := m) (by generalize (N + 1) * (3 * N + 201) = F at *; omega)
  have s1 := call_sh (pg := pg) (f := 104) rfl r1
  have sd3 := sd1.trans sd2
  obtain ⟨H2, hH2⟩ : ∃ H, H = h1.bump 7 := ⟨_, rfl⟩
  have sd4 : SD kb (srtL l).toArray h H2 := hH2 ▸ sd3.bump 7
  obtain ⟨h2, r2, Z, hZ, sd5⟩ := compactn_sh (S := srtL l) sd4.g (by have := sd4.n; have := sd4.k; omega) sd4.fr (by rw [srt_len]; exact hS) hN (n := m) (by generalize (N + 1) * (3 * N + 201) = F at *; omega)
  have s2 := call_sh (pg := pg) (f := 105) rfl r2
  have er : dk (srtL l) N = rsL l := by unfold rsL; rw [hS]
  rw [er] at s2 hZ sd5
  have sd6 := sd4.trans sd5
  simp [k72, Env.v_ini, ← hH1, s1, ← hH2, s2]
  exact ⟨Z, by simpa using hZ, by repeat' first | exact sd6 | refine SD.bump ?_ _⟩
end Go.Proofs.YtlkpikdfbodhoaaDoor
