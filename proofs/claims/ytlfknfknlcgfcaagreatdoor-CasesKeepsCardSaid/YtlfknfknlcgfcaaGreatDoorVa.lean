/- Years of marks, by the program's own functions: the marks are the same, the years may be. -/
import Derived.Test.YtlfknfknlcgfcaaGreatDoorKp1
import Derived.Test.YtlfknfknlcgfcaaGreatDoorZh
namespace Go.Proofs.YtlfknfknlcgfcaaGreatDoor
open Go Go.Em
set_option maxRecDepth 100000
theorem eqm_run (d : Dt) (v : Int) {n : Nat} (hn : 1 ≤ n) : pureCall (rc pg n) 102 [dtD d, D.int v] = some (.ret (D.bool (d.m == v))) := by
  obtain ⟨m, rfl, e⟩ := body (pg := pg) (f := 102) (args := [dtD d, D.int v]) (show 0 < n by omega) rfl rfl
  rw [e]
  simp [-beq_iff_eq, -bne_iff_ne, -beq_eq_false_iff_ne, k102, Env.v_ini, dtD, dtC, D.cells, D.one]
def VaI (d : List Dt) (M : List Int) (k : Nat) (s : St) : Prop := ∃ (x : Env 32) (h : Heap) (i : Nat), s = ⟨x.l, h, []⟩ ∧ i + k = d.length ∧ x.v 1 = intsD M ∧ x.v 2 = .fn (.func 102) [] [] ∧ x.v 15 = dtsD d ∧ x.v 16 = D.int d.length ∧ x.v 17 = D.int i ∧ msF (d.take i) = M.take i ∧ h.Fr
def VaQ (d : List Dt) (M : List Int) (x : Ex) (s : St) : Prop := (x = .exit 0 ∧ VaI d M 0 s) ∨ (x = .ret ∧ msF d ≠ M ∧ ∃ (x : Env 32) (h : Heap), s = ⟨x.l, h, []⟩ ∧ x.v 6 = D.bool false)
set_option maxHeartbeats 4000000 in
theorem va_round (d : List Dt) (M : List Int) (hl : d.length = M.length) (hd : d.length ≤ 64) : ∀ n, 5 ≤ n → ∀ k s, VaI d M k s → Res (k100l0.ev ⟨pg, 32, none⟩ (rc pg n) s) (Rnd (VaI d M) (VaQ d M) k) := by
  rintro n hn k s ⟨x, h, i, rfl, hik, v1, v2, v15, v16, v17, ho, hf⟩
  simp only [dtsD] at v15
  simp only [intsD] at v1
  by_cases hi : i < d.length
  · obtain ⟨r, hr⟩ : ∃ r, d[i] = r := ⟨_, rfl⟩
    have hiM : i < M.length := by omega
    obtain ⟨v, hv⟩ : ∃ v, M[i] = v := ⟨_, rfl⟩
    have w1 : IntKind.i64.wrap ((i : Int) + 1) = (i : Int) + 1 := wrap_i64 (by omega) (by omega)
    have hfr : ∀ j, h.raw (h.next + j) = none := fun j => hf _ (by omega)
    have hp := fun h => call_of (h := h) (pg := pg) (f := 102) rfl (by simp [dt_canon]) (@eqm_run r v n (by omega))
    have htk : msF (d.take (i + 1)) = msF (d.take i) ++ [r.m] := by rw [List.take_add_one, List.getElem?_eq_getElem hi, hr]; simp [msF]
    have htm : M.take (i + 1) = M.take i ++ [v] := by rw [List.take_add_one, List.getElem?_eq_getElem hiM, hv]; rfl
    simp only [dtD, dtC] at hp
    cases he : (r.m == v) with
    | true =>
      rw [he] at hp
      simp [-beq_iff_eq, k100l0, v1, v2, v15, v16, v17, hi, hiM, hr, hv, dtD, dtC, D.cells, D.one, hfr, Nat.add_assoc, hp, w1]
      refine ⟨k - 1, by omega, _, _, i + 1, rfl, by omega, by simp [v1, intsD], by simp [v2], by simp [v15, dtsD], by simp [v16], by simp, by rw [htk, htm, ho]; simpa using he, ?_⟩
      repeat' first | exact hf | apply Heap.Fr.bump | apply Heap.Fr.set
      all_goals (simp <;> omega)
    | false =>
      rw [he] at hp
      simp [-beq_iff_eq, k100l0, v1, v2, v15, v16, v17, hi, hiM, hr, hv, dtD, dtC, D.cells, D.one, hfr, Nat.add_assoc, hp]
      refine .inr ⟨rfl, fun hm => ?_, _, _, rfl, by simp⟩
      have e1 : (msF d)[i]? = M[i]? := by rw [hm]
      rw [List.getElem?_eq_getElem hiM, hv] at e1
      have e2 : (msF d)[i]? = some r.m := by unfold msF; rw [List.getElem?_map, List.getElem?_eq_getElem hi, hr]; rfl
      rw [e2] at e1
      simp at he
      exact he (Option.some.inj e1)
  · simp [k100l0, v16, v17, hi]
    exact .inl ⟨rfl, _, _, i, rfl, by omega, by simp [v1, intsD], by simp [v2], by simp [v15, dtsD], by simp [v16], by simp [v17], ho, hf.bump _⟩
set_option maxHeartbeats 2000000 in
theorem eqf_run (d : List Dt) (M : List Int) (hM : M.length ≤ 64) {n : Nat} (hn : 200 ≤ n) : pureCall (rc pg n) 100 [dtsD d, intsD M, .fn (.func 102) [] []] = some (.ret (D.bool (decide (msF d = M)))) := by
  obtain ⟨m, rfl, e⟩ := body (pg := pg) (f := 100) (args := [dtsD d, intsD M, .fn (.func 102) [] []]) (show 0 < n by omega) rfl rfl
  rw [e]
  by_cases hl : d.length = M.length
  · have hl' : ((d.length : Int) != (M.length : Int)) = false := by simp [hl]
    obtain ⟨A, hA⟩ : ∃ A, A = decide (msF d = M) := ⟨_, rfl⟩
    rw [← hA]
    simp [-bne_iff_ne, -bne_eq_false_iff_eq, k100, Env.v_ini, dtsD, intsD, hl', ev_loop]
    refine Res.endsAfter (lp_rule 5 (VaI d M) _ (va_round d M hl (by omega)) d.length m _ (by omega) ⟨_, _, 0, rfl, by omega, by simp [Env.v_ini, intsD], by simp [Env.v_ini], by simp [dtsD], by simp, by simp, by simp [msF], by repeat' first | exact Heap.Fr.empty | apply Heap.Fr.bump⟩) ?_
    rintro y s (⟨rfl, x, h, i, rfl, hi, _, _, _, _, _, ho, hf⟩ | ⟨rfl, hne, x, h, rfl, v6⟩)
    · have hil : i = d.length := by omega
      subst hil
      rw [List.take_length, hl, List.take_length] at ho
      rw [hA, decide_eq_true ho]; simp
    · rw [hA, decide_eq_false hne]; simp [v6]
  · have hl' : ((d.length : Int) != (M.length : Int)) = true := by simp; omega
    have hne : msF d ≠ M := by rintro rfl; simp [msF] at hl
    rw [decide_eq_false hne]
    simp [-bne_iff_ne, -bne_eq_false_iff_eq, k100, Env.v_ini, dtsD, intsD, hl']
/-! Whether a mark may have its year. -/
set_option maxHeartbeats 2000000 in
theorem maybe_run (d : Dt) {n : Nat} (hn : 2 ≤ n) : pureCall (rc pg n) 105 [dtD d] = some (.ret (D.bool (!yrB d))) := by
  obtain ⟨m, rfl, e⟩ := body (pg := pg) (f := 105) (args := [dtD d]) (show 0 < n by omega) rfl rfl
  rw [e]
  have hw := @cwithin_run m (by omega)
  unfold yrB
  by_cases h0 : d.m = 0
  · by_cases hy : d.y = 0
    · simp [k105, Env.v_ini, dtD, dtC, D.cells, D.one, h0, hy, inR_eq]
    · have hy2 : (d.y == 0) = false := by simp [hy]
      simp [k105, Env.v_ini, dtD, dtC, D.cells, D.one, h0, hy, hy2]
  · have h02 : (d.m == 0) = false := by simp [h0]
    simp [k105, Env.v_ini, dtD, dtC, D.cells, D.one, h02, hw]
theorem nmb_run (d : Dt) {n : Nat} (hn : 3 ≤ n) : pureCall (rc pg n) 104 [dtD d] = some (.ret (D.bool (yrB d))) := by
  obtain ⟨m, rfl, e⟩ := body (pg := pg) (f := 104) (args := [dtD d]) (show 0 < n by omega) rfl rfl
  rw [e]
  have hp := fun h => call_of (h := h) (pg := pg) (f := 105) rfl (by simp [dt_canon]) (@maybe_run d m (by omega))
  simp only [dtD, dtC] at hp
  simp [k104, Env.v_ini, dtD, dtC, D.cells, D.one, hp]
end Go.Proofs.YtlfknfknlcgfcaaGreatDoor
/- The first element of a kind, for functions of any kind; the years of marks in a map. -/
namespace Go.Proofs.YtlfknfknlcgfcaaGreatDoor
open Go Go.Em
set_option maxRecDepth 100000
def IxDI (F : FuncId) (cap : List D) (P : Dt → Bool) (l : List Dt) (k : Nat) (s : St) : Prop := ∃ (x : Env 19) (h : Heap) (i : Nat), s = ⟨x.l, h, []⟩ ∧ i + k = l.length ∧ x.v 0 = dtsD l ∧ x.v 1 = .fn (.func F) [] cap ∧ x.v 7 = D.int l.length ∧ x.v 8 = D.int i ∧ ixP P 0 l = ixP P i (l.drop i) ∧ h.Fr
def IxDQ (P : Dt → Bool) (l : List Dt) (x : Ex) (s : St) : Prop :=
  (x = .exit 0 ∧ ixP P 0 l = -1 ∧ ∃ (x : Env 19) (h : Heap), s = ⟨x.l, h, []⟩) ∨ (x = .ret ∧ ∃ (x : Env 19) (h : Heap), s = ⟨x.l, h, []⟩ ∧ x.v 4 = D.int (ixP P 0 l))
set_option maxHeartbeats 4000000 in
theorem ixD_round (F : FuncId) (cap : List D) (P : Dt → Bool) (l : List Dt) (N : Nat) (hs : pg.sh F = false) (hcap : D.canonL cap = true) (hF : ∀ c ∈ l, ∀ n, N ≤ n → pureCall (rc pg n) F (dtD c :: cap) = some (.ret (D.bool (P c)))) (hl : l.length ≤ 20000000000000) : ∀ n, N ≤ n → ∀ k s, IxDI F cap P l k s → Res (k160l0.ev ⟨pg, 19, none⟩ (rc pg n) s) (Rnd (IxDI F cap P l) (IxDQ P l) k) := by
  rintro n hn k s ⟨x, h, i, rfl, hik, v0, v1, v7, v8, ho, hf⟩
  simp only [dtsD] at v0
  by_cases hlt : i < l.length
  · obtain ⟨r, hr⟩ : ∃ r, l[i] = r := ⟨l[i], rfl⟩
    have hd : l.drop i = r :: l.drop (i + 1) := by rw [List.drop_eq_getElem_cons hlt, hr]
    rw [hd, ixP] at ho
    have hw1 : IntKind.i64.wrap ((i : Int) + 1) = (i : Int) + 1 := wrap_i64 (by omega) (by omega)
    have c1 := fun h => call_of (h := h) (pg := pg) (f := F) hs (by rw [D.canonL, dt_canon r, hcap]; rfl) (hF r (by rw [← hr]; exact List.getElem_mem hlt) n hn)
    simp only [dtD, dtC] at c1
    cases he : P r with
    | true =>
      rw [he] at c1
      simp only [he, if_true] at ho
      simp [k160l0, v0, v1, v7, v8, hlt, hr, dtD, dtC, D.cells, c1]
      exact .inr ⟨rfl, _, _, rfl, by simp [ho]⟩
    | false =>
      rw [he] at c1
      simp only [he, Bool.false_eq_true, if_false] at ho
      simp [k160l0, v0, v1, v7, v8, hlt, hr, dtD, dtC, D.cells, c1, hw1]
      exact ⟨k - 1, by omega, _, _, i + 1, rfl, by omega, by simp [v0, dtsD], by simp [v1], by simp [v7], by simp, ho, by repeat' first | exact hf | apply Heap.Fr.bump⟩
  · simp [k160l0, v7, v8, hlt]
    have hi : i = l.length := by omega
    rw [hi, List.drop_length] at ho
    exact .inl ⟨rfl, ho, _, _, rfl⟩
theorem ixD_run (F : FuncId) (cap : List D) (P : Dt → Bool) (l : List Dt) (N : Nat) (hs : pg.sh F = false) (hcap : D.canonL cap = true) (hF : ∀ c ∈ l, ∀ n, N ≤ n → pureCall (rc pg n) F (dtD c :: cap) = some (.ret (D.bool (P c)))) (hl : l.length ≤ 20000000000000) {n : Nat} (hn : N + l.length + 10 ≤ n) : pureCall (rc pg n) 160 [dtsD l, .fn (.func F) [] cap] = some (.ret (D.int (ixP P 0 l))) := by
  obtain ⟨m, rfl, e⟩ := body (pg := pg) (f := 160) (args := [dtsD l, .fn (.func F) [] cap]) (show 0 < n by omega) rfl rfl
  rw [e]
  simp [k160, Env.v_ini, dtsD, ev_loop]
  refine Res.endsAfter (lp_rule N (IxDI F cap P l) (IxDQ P l) (ixD_round F cap P l N hs hcap hF hl) l.length m _ (by omega) ⟨_, _, 0, rfl, by omega, by simp [Env.v_ini, dtsD], by simp [Env.v_ini], by simp, by simp, rfl, by repeat' first | exact Heap.Fr.empty | apply Heap.Fr.bump⟩) ?_
  rintro x s (⟨rfl, ho, x, h, rfl⟩ | ⟨rfl, x, h, rfl, v4⟩)
  · simp [ho]
  · simp [v4]
def IxCI (F : FuncId) (cap : List D) (P : Clm → Bool) (l : List Clm) (k : Nat) (s : St) : Prop := ∃ (x : Env 19) (h : Heap) (i : Nat), s = ⟨x.l, h, []⟩ ∧ i + k = l.length ∧ x.v 0 = clsD l ∧ x.v 1 = .fn (.func F) [] cap ∧ x.v 7 = D.int l.length ∧ x.v 8 = D.int i ∧ ixP P 0 l = ixP P i (l.drop i) ∧ h.Fr
def IxCQ (P : Clm → Bool) (l : List Clm) (x : Ex) (s : St) : Prop :=
  (x = .exit 0 ∧ ixP P 0 l = -1 ∧ ∃ (x : Env 19) (h : Heap), s = ⟨x.l, h, []⟩) ∨ (x = .ret ∧ ∃ (x : Env 19) (h : Heap), s = ⟨x.l, h, []⟩ ∧ x.v 4 = D.int (ixP P 0 l))
set_option maxHeartbeats 4000000 in
theorem ixC_round (F : FuncId) (cap : List D) (P : Clm → Bool) (l : List Clm) (N : Nat) (hs : pg.sh F = false) (hcap : D.canonL cap = true) (hF : ∀ c ∈ l, ∀ n, N ≤ n → pureCall (rc pg n) F (clD c :: cap) = some (.ret (D.bool (P c)))) (hl : l.length ≤ 20000000000000) : ∀ n, N ≤ n → ∀ k s, IxCI F cap P l k s → Res (k161l0.ev ⟨pg, 19, none⟩ (rc pg n) s) (Rnd (IxCI F cap P l) (IxCQ P l) k) := by
  rintro n hn k s ⟨x, h, i, rfl, hik, v0, v1, v7, v8, ho, hf⟩
  simp only [clsD] at v0
  by_cases hlt : i < l.length
  · obtain ⟨r, hr⟩ : ∃ r, l[i] = r := ⟨l[i], rfl⟩
    have hd : l.drop i = r :: l.drop (i + 1) := by rw [List.drop_eq_getElem_cons hlt, hr]
    rw [hd, ixP] at ho
    have hw1 : IntKind.i64.wrap ((i : Int) + 1) = (i : Int) + 1 := wrap_i64 (by omega) (by omega)
    have c1 := fun h => call_of (h := h) (pg := pg) (f := F) hs (by rw [D.canonL, cl_canon r, hcap]; rfl) (hF r (by rw [← hr]; exact List.getElem_mem hlt) n hn)
    simp only [clD, clC] at c1
    cases he : P r with
    | true =>
      rw [he] at c1
      simp only [he, if_true] at ho
      simp [k161l0, v0, v1, v7, v8, hlt, hr, clD, clC, D.cells, c1]
      exact .inr ⟨rfl, _, _, rfl, by simp [ho]⟩
    | false =>
      rw [he] at c1
      simp only [he, Bool.false_eq_true, if_false] at ho
      simp [k161l0, v0, v1, v7, v8, hlt, hr, clD, clC, D.cells, c1, hw1]
      exact ⟨k - 1, by omega, _, _, i + 1, rfl, by omega, by simp [v0, clsD], by simp [v1], by simp [v7], by simp, ho, by repeat' first | exact hf | apply Heap.Fr.bump⟩
  · simp [k161l0, v7, v8, hlt]
    have hi : i = l.length := by omega
    rw [hi, List.drop_length] at ho
    exact .inl ⟨rfl, ho, _, _, rfl⟩
theorem ixC_run (F : FuncId) (cap : List D) (P : Clm → Bool) (l : List Clm) (N : Nat) (hs : pg.sh F = false) (hcap : D.canonL cap = true) (hF : ∀ c ∈ l, ∀ n, N ≤ n → pureCall (rc pg n) F (clD c :: cap) = some (.ret (D.bool (P c)))) (hl : l.length ≤ 20000000000000) {n : Nat} (hn : N + l.length + 10 ≤ n) : pureCall (rc pg n) 161 [clsD l, .fn (.func F) [] cap] = some (.ret (D.int (ixP P 0 l))) := by
  obtain ⟨m, rfl, e⟩ := body (pg := pg) (f := 161) (args := [clsD l, .fn (.func F) [] cap]) (show 0 < n by omega) rfl rfl
  rw [e]
  simp [k161, Env.v_ini, clsD, ev_loop]
  refine Res.endsAfter (lp_rule N (IxCI F cap P l) (IxCQ P l) (ixC_round F cap P l N hs hcap hF hl) l.length m _ (by omega) ⟨_, _, 0, rfl, by omega, by simp [Env.v_ini, clsD], by simp [Env.v_ini], by simp, by simp, rfl, by repeat' first | exact Heap.Fr.empty | apply Heap.Fr.bump⟩) ?_
  rintro x s (⟨rfl, ho, x, h, rfl⟩ | ⟨rfl, x, h, rfl, v4⟩)
  · simp [ho]
  · simp [v4]
def IxLI (F : FuncId) (cap : List D) (P : List Clm → Bool) (l : List (List Clm)) (k : Nat) (s : St) : Prop := ∃ (x : Env 19) (h : Heap) (i : Nat), s = ⟨x.l, h, []⟩ ∧ i + k = l.length ∧ x.v 0 = chD l ∧ x.v 1 = .fn (.func F) [] cap ∧ x.v 7 = D.int l.length ∧ x.v 8 = D.int i ∧ ixP P 0 l = ixP P i (l.drop i) ∧ h.Fr
def IxLQ (P : List Clm → Bool) (l : List (List Clm)) (x : Ex) (s : St) : Prop :=
  (x = .exit 0 ∧ ixP P 0 l = -1 ∧ ∃ (x : Env 19) (h : Heap), s = ⟨x.l, h, []⟩) ∨ (x = .ret ∧ ∃ (x : Env 19) (h : Heap), s = ⟨x.l, h, []⟩ ∧ x.v 4 = D.int (ixP P 0 l))
set_option maxHeartbeats 4000000 in
theorem ixL_round (F : FuncId) (cap : List D) (P : List Clm → Bool) (l : List (List Clm)) (N : Nat) (hs : pg.sh F = false) (hcap : D.canonL cap = true) (hF : ∀ c ∈ l, ∀ n, N ≤ n → pureCall (rc pg n) F (clsD c :: cap) = some (.ret (D.bool (P c)))) (hl : l.length ≤ 20000000000000) : ∀ n, N ≤ n → ∀ k s, IxLI F cap P l k s → Res (k110l0.ev ⟨pg, 19, none⟩ (rc pg n) s) (Rnd (IxLI F cap P l) (IxLQ P l) k) := by
  rintro n hn k s ⟨x, h, i, rfl, hik, v0, v1, v7, v8, ho, hf⟩
  simp only [chD] at v0
  by_cases hlt : i < l.length
  · obtain ⟨r, hr⟩ : ∃ r, l[i] = r := ⟨l[i], rfl⟩
    have hd : l.drop i = r :: l.drop (i + 1) := by rw [List.drop_eq_getElem_cons hlt, hr]
    rw [hd, ixP] at ho
    have hw1 : IntKind.i64.wrap ((i : Int) + 1) = (i : Int) + 1 := wrap_i64 (by omega) (by omega)
    have c1 := fun h => call_of (h := h) (pg := pg) (f := F) hs (by rw [D.canonL, cls_canon1 r, hcap]; rfl) (hF r (by rw [← hr]; exact List.getElem_mem hlt) n hn)
    simp only [clsD] at c1
    cases he : P r with
    | true =>
      rw [he] at c1
      simp only [he, if_true] at ho
      simp [k110l0, v0, v1, v7, v8, hlt, hr, clsD, D.cells, c1]
      exact .inr ⟨rfl, _, _, rfl, by simp [ho]⟩
    | false =>
      rw [he] at c1
      simp only [he, Bool.false_eq_true, if_false] at ho
      simp [k110l0, v0, v1, v7, v8, hlt, hr, clsD, D.cells, c1, hw1]
      exact ⟨k - 1, by omega, _, _, i + 1, rfl, by omega, by simp [v0, chD], by simp [v1], by simp [v7], by simp, ho, by repeat' first | exact hf | apply Heap.Fr.bump⟩
  · simp [k110l0, v7, v8, hlt]
    have hi : i = l.length := by omega
    rw [hi, List.drop_length] at ho
    exact .inl ⟨rfl, ho, _, _, rfl⟩
theorem ixL_run (F : FuncId) (cap : List D) (P : List Clm → Bool) (l : List (List Clm)) (N : Nat) (hs : pg.sh F = false) (hcap : D.canonL cap = true) (hF : ∀ c ∈ l, ∀ n, N ≤ n → pureCall (rc pg n) F (clsD c :: cap) = some (.ret (D.bool (P c)))) (hl : l.length ≤ 20000000000000) {n : Nat} (hn : N + l.length + 10 ≤ n) : pureCall (rc pg n) 110 [chD l, .fn (.func F) [] cap] = some (.ret (D.int (ixP P 0 l))) := by
  obtain ⟨m, rfl, e⟩ := body (pg := pg) (f := 110) (args := [chD l, .fn (.func F) [] cap]) (show 0 < n by omega) rfl rfl
  rw [e]
  simp [k110, Env.v_ini, chD, ev_loop]
  refine Res.endsAfter (lp_rule N (IxLI F cap P l) (IxLQ P l) (ixL_round F cap P l N hs hcap hF hl) l.length m _ (by omega) ⟨_, _, 0, rfl, by omega, by simp [Env.v_ini, chD], by simp [Env.v_ini], by simp, by simp, rfl, by repeat' first | exact Heap.Fr.empty | apply Heap.Fr.bump⟩) ?_
  rintro x s (⟨rfl, ho, x, h, rfl⟩ | ⟨rfl, x, h, rfl, v4⟩)
  · simp [ho]
  · simp [v4]
theorem conD_run (F : FuncId) (cap : List D) (P : Dt → Bool) (l : List Dt) (N : Nat) (hs : pg.sh F = false) (hcap : D.canonL cap = true) (hF : ∀ c ∈ l, ∀ n, N ≤ n → pureCall (rc pg n) F (dtD c :: cap) = some (.ret (D.bool (P c)))) (hl : l.length ≤ 20000000000000) (hcan : (dtsD l).canon = true) {n : Nat} (hn : N + l.length + 20 ≤ n) : pureCall (rc pg n) 103 [dtsD l, .fn (.func F) [] cap] = some (.ret (D.bool (l.any P))) := by
  obtain ⟨m, rfl, e⟩ := body (pg := pg) (f := 103) (args := [dtsD l, .fn (.func F) [] cap]) (show 0 < n by omega) rfl rfl
  rw [e]
  have hx := fun h => call_of (h := h) (pg := pg) (f := 160) rfl (by simp [hcan, hcap]) (ixD_run F cap P l N hs hcap hF hl (n := m) (by omega))
  have ha := ixP_any P l 0
  simp only [dtsD] at hx
  simp [-List.any_eq_true, k103, Env.v_ini, dtsD, hx]
  rw [← ha]
theorem conC_run (F : FuncId) (cap : List D) (P : Clm → Bool) (l : List Clm) (N : Nat) (hs : pg.sh F = false) (hcap : D.canonL cap = true) (hF : ∀ c ∈ l, ∀ n, N ≤ n → pureCall (rc pg n) F (clD c :: cap) = some (.ret (D.bool (P c)))) (hl : l.length ≤ 20000000000000) (hcan : (clsD l).canon = true) {n : Nat} (hn : N + l.length + 20 ≤ n) : pureCall (rc pg n) 108 [clsD l, .fn (.func F) [] cap] = some (.ret (D.bool (l.any P))) := by
  obtain ⟨m, rfl, e⟩ := body (pg := pg) (f := 108) (args := [clsD l, .fn (.func F) [] cap]) (show 0 < n by omega) rfl rfl
  rw [e]
  have hx := fun h => call_of (h := h) (pg := pg) (f := 161) rfl (by simp [hcan, hcap]) (ixC_run F cap P l N hs hcap hF hl (n := m) (by omega))
  have ha := ixP_any P l 0
  simp only [clsD] at hx
  simp [-List.any_eq_true, k108, Env.v_ini, clsD, hx]
  rw [← ha]
/-! The map of years. -/
def yM (l : List Dt) : List (D × D) := l.map fun d => (D.int d.m, D.int d.y)
theorem yfind (v : Int) : ∀ (l : List Dt) (i : Nat), (v ∉ msF l ∧ yOf l v = 0 ∧ findD .int (D.int v) (yM l) i = some none) ∨ ∃ j, findD .int (D.int v) (yM l) i = some (some (j, D.int (yOf l v))) ∧ v ∈ msF l
  | [], i => .inl ⟨by simp [msF], rfl, rfl⟩
  | a :: l, i => by
    have e : findD .int (D.int v) (yM (a :: l)) i = if (v == a.m) = true then some (some (i, D.int a.y)) else findD .int (D.int v) (yM l) (i + 1) := by
      simp only [yM, List.map_cons]
      conv => lhs; unfold findD
      simp only [cellEq, if_true]
      cases v == a.m <;> rfl
    rw [e]
    by_cases h : v = a.m
    · rw [if_pos (by simp [h])]
      refine .inr ⟨i, ?_, by simp [msF, h]⟩
      unfold yOf
      rw [if_pos (by simp [h])]
    · rw [if_neg (by simpa using h)]
      have hy : yOf (a :: l) v = yOf l v := by
        conv => lhs; unfold yOf
        rw [if_neg (by simp; exact fun e => h e.symm)]
      rw [hy]
      rcases yfind v l (i + 1) with ⟨h1, h2, h3⟩ | ⟨j, h3⟩
      · exact .inl ⟨by simp only [msF, List.map_cons, List.mem_cons, not_or] at h1 ⊢; exact ⟨h, h1⟩, h2, h3⟩
      · exact .inr ⟨j, h3.1, by have := h3.2; simp only [msF, List.map_cons, List.mem_cons] at this ⊢; exact .inr this⟩
theorem yM_E : ∀ l : List Dt, D.canonE (yM l) = true
  | [] => rfl
  | a :: l => by
    have := yM_E l
    simp only [yM, List.map_cons, D.canonE] at this ⊢
    rw [this]; rfl
theorem yM_canon (l : List Dt) : (D.map (yM l)).canon = true := by
  unfold D.canon; exact yM_E l
theorem yM_snoc (l : List Dt) (d : Dt) : yM l ++ [(D.int d.m, D.int d.y)] = yM (l ++ [d]) := by simp [yM]
end Go.Proofs.YtlfknfknlcgfcaaGreatDoor
/- Whether claims hold in years, by the program; the years in a map. -/
namespace Go.Proofs.YtlfknfknlcgfcaaGreatDoor
open Go Go.Em
set_option maxRecDepth 100000
set_option maxHeartbeats 4000000 in
theorem out_run (d : List Dt) (hy : yrsOk d = true) (c : Clm) {n : Nat} (hn : 3 ≤ n) : pureCall (rc pg n) 109 [clD c, .eref [.map (yM d)]] = some (.ret (D.bool (clB d c))) := by
  obtain ⟨m, rfl, e⟩ := body (pg := pg) (f := 109) (args := [clD c, .eref [.map (yM d)]]) (show 0 < n by omega) rfl rfl
  rw [e]
  have hw := @cwithin_run m (by omega)
  obtain ⟨b1, b2⟩ := yof_bound d c.b hy
  obtain ⟨a1, a2⟩ := yof_bound d c.a hy
  have hin := clB_in d c
  have hof : D.of (.int .i64 0) = D.int 0 := rfl
  have ws : IntKind.i64.wrap (yOf d c.b - yOf d c.a) = yOf d c.b - yOf d c.a := wrap_i64 (by omega) (by omega)
  have w0 : IntKind.i64.wrap 0 = 0 := wrap_i64 (by omega) (by omega)
  rcases yfind c.b d 0 with ⟨_, y1, f1⟩ | ⟨j1, f1, _⟩
  · rcases yfind c.a d 0 with ⟨_, y2, f2⟩ | ⟨j2, f2, _⟩
    · rw [y1, y2] at hin
      simp at hin
      simp [-findD, k109, Env.v_ini, clD, clC, D.cells, D.one, f1, f2, hof, w0, hw, hin]
    · rw [y1] at ws hin
      simp at ws hin
      simp [-findD, k109, Env.v_ini, clD, clC, D.cells, D.one, f1, f2, hof, ws, hw, hin]
  · rcases yfind c.a d 0 with ⟨_, y2, f2⟩ | ⟨j2, f2, _⟩
    · rw [y2] at ws hin
      simp at ws hin
      simp [-findD, k109, Env.v_ini, clD, clC, D.cells, D.one, f1, f2, hof, ws, hw, hin]
    · simp [-findD, k109, Env.v_ini, clD, clC, D.cells, D.one, f1, f2, ws, hw, hin]
theorem cap_canon (d : List Dt) : D.canonL [.eref [.map (yM d)]] = true := by
  have := yM_canon d
  simp only [D.canon] at this
  simp [D.canonL, D.canon, this]
theorem any_ok (d : List Dt) (l : List Clm) : (!l.any (clB d)) = clsOk d l := by
  unfold clsOk
  rw [List.any_eq_not_all_not, Bool.not_not]
set_option maxHeartbeats 2000000 in
theorem hold_run (d : List Dt) (hy : yrsOk d = true) (l : List Clm) (hl : l.length ≤ 1000000) {n : Nat} (hn : 1000100 ≤ n) : pureCall (rc pg n) 107 [clsD l, .eref [.map (yM d)]] = some (.ret (D.bool (clsOk d l))) := by
  obtain ⟨m, rfl, e⟩ := body (pg := pg) (f := 107) (args := [clsD l, .eref [.map (yM d)]]) (show 0 < n by omega) rfl rfl
  rw [e]
  have hcap := cap_canon d
  have hx := fun h => call_of (h := h) (pg := pg) (f := 108) rfl (by have := yM_canon d; simp only [D.canon] at this; simp [cls_canon1, D.canonL, D.canon, this]) (conC_run 109 [.eref [.map (yM d)]] (clB d) l 3 rfl hcap (fun c _ n hn => out_run d hy c hn) (by omega) (cls_canon1 l) (n := m) (by omega))
  have ha := any_ok d l
  simp only [clsD] at hx
  simp [-List.any_eq_true, k107, Env.v_ini, clsD, hx, ha]
/-! The map of years is made. -/
def VcI (d : List Dt) (k : Nat) (s : St) : Prop := ∃ (x : Env 22) (h : Heap) (i b : Nat), s = ⟨x.l, h, []⟩ ∧ i + k = d.length ∧ x.v 9 = dtsD d ∧ x.v 10 = D.int d.length ∧ x.v 11 = D.int i ∧ x.v 3 = .mapr b ∧ h.get b = some (.map (yM (d.take i))) ∧ b < h.next ∧ h.Fr
theorem rise_new {d : List Dt} (hr : Rise (msF d)) {i : Nat} (hi : i < d.length) : d[i].m ∉ msF (d.take i) := by
  have e0 : d = d.take i ++ d[i] :: d.drop (i + 1) := by rw [← List.drop_eq_getElem_cons hi, List.take_append_drop]
  have e : msF d = msF (d.take i) ++ d[i].m :: msF (d.drop (i + 1)) := (congrArg msF e0).trans (by unfold msF; rw [List.map_append, List.map_cons])
  unfold Rise at hr
  rw [e, List.pairwise_append] at hr
  intro hm
  have := hr.2.2 _ hm _ List.mem_cons_self
  omega
set_option maxHeartbeats 4000000 in
theorem vc_round (d : List Dt) (hr : Rise (msF d)) (hl : d.length ≤ 20000000000000) : ∀ n, 0 ≤ n → ∀ k s, VcI d k s → Res (k106l0.ev ⟨pg, 22, none⟩ (rc pg n) s) (Rnd (VcI d) (fun x s => x = .exit 0 ∧ VcI d 0 s) k) := by
  rintro n hn k s ⟨x, h, i, b, rfl, hik, v9, v10, v11, v3, hg, hb, hf⟩
  simp only [dtsD] at v9
  by_cases hi : i < d.length
  · obtain ⟨r, hr2⟩ : ∃ r, d[i] = r := ⟨_, rfl⟩
    have hnew := rise_new hr hi
    rw [hr2] at hnew
    have htk : d.take (i + 1) = d.take i ++ [r] := by rw [List.take_add_one, List.getElem?_eq_getElem hi, hr2]; rfl
    have w1 : IntKind.i64.wrap ((i : Int) + 1) = (i : Int) + 1 := wrap_i64 (by omega) (by omega)
    have hfr : ∀ j, h.raw (h.next + j) = none := fun j => hf _ (by omega)
    have ne1 : ∀ j, (b = h.next + j) = False := fun j => by simp; omega
    have hs2 := yM_snoc (d.take i) r
    rcases yfind r.m (d.take i) 0 with ⟨_, _, h2⟩ | ⟨j, _, h2⟩
    · simp [-findD, k106l0, v9, v10, v11, v3, hi, hr2, dtD, dtC, D.cells, D.one, hfr, Nat.add_assoc, w1, hg, ne1, h2, hs2]
      refine ⟨k - 1, by omega, _, _, i + 1, b, rfl, by omega, by simp [v9, dtsD], by simp [v10], by simp, by simp [v3], by simp [htk], by simp; omega, ?_⟩
      repeat' first | exact hf | apply Heap.Fr.bump | apply Heap.Fr.set
      all_goals (simp <;> omega)
    · exact absurd h2 hnew
  · simp [k106l0, v10, v11, hi]
    exact ⟨_, _, i, b, rfl, by omega, by simp [v9, dtsD], by simp [v10], by simp [v11], by simp [v3], by simp [hg], by simp; omega, hf.bump _⟩
theorem eachE_y (h : Heap) (n : Nat) : ∀ l : List Dt, eachE (Go.Em.frz h (n + 1)) (yM l) = some (yM l, [])
  | [] => rfl
  | a :: l => by
    have := eachE_y h n l
    simp only [yM, List.map_cons, eachE] at this ⊢
    rw [this]
    rfl
theorem frz_ymap {h : Heap} {b : Nat} {L : List Dt} (hg : h.get b = some (.map (yM L))) (n : Nat) : Go.Em.frz h (n + 2) (.mapr b) = some (.map (yM L), [b]) := by
  conv => lhs; unfold Go.Em.frz
  rw [if_neg (by simp [D.canon])]
  simp only [hg, eachE_y h n L, Option.map_some]
theorem yearsof_run (d : List Dt) (hr : Rise (msF d)) (hl : d.length ≤ 20000000000000) {n : Nat} (hn : d.length + 5 ≤ n) : pureCall (rc pg n) 106 [dtsD d] = some (.ret (.map (yM d))) := by
  obtain ⟨m, rfl, e⟩ := body (pg := pg) (f := 106) (args := [dtsD d]) (show 0 < n by omega) rfl rfl
  rw [e]
  simp [k106, Env.v_ini, dtsD, ev_loop]
  refine Res.endsAfter (lp_rule 0 (VcI d) _ (vc_round d hr hl) d.length m _ (by omega) ⟨_, _, 0, 30, rfl, by omega, by simp [dtsD], by simp, by simp, by simp, by simp [yM], by simp, ?_⟩) ?_
  · repeat' first | exact Heap.Fr.empty | apply Heap.Fr.bump | apply Heap.Fr.set
    all_goals simp
  · rintro x s ⟨rfl, x, h', i, b, rfl, hi, v9, v10, v11, v3, hg, hb, hf⟩
    have hil : i = d.length := by omega
    subst hil
    rw [List.take_length] at hg
    have hz := fun n => frz_ymap (h := h'.bump 22) (b := b) (L := d) (by simpa using hg) n
    simp [v3, hz]
end Go.Proofs.YtlfknfknlcgfcaaGreatDoor
