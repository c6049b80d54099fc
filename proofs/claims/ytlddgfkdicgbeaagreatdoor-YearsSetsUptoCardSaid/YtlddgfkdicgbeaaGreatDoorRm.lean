/- Lists of runs compared; whether a list is a normal form, by the program and by the document. -/
import Derived.Test.YtlddgfkdicgbeaaGreatDoorRk
import Derived.Test.YtlddgfkdicgbeaaGreatDoorSane
namespace Go.Proofs.YtlddgfkdicgbeaaGreatDoor
open Go Go.Em
set_option maxRecDepth 100000
def SmI (A B : List Rn) (k : Nat) (s : St) : Prop := ∃ (x : Env 26) (h : Heap) (i : Nat), s = ⟨x.l, h, []⟩ ∧ i + k = A.length ∧ x.v 0 = rnsD A ∧ x.v 1 = rnsD B ∧ x.v 12 = D.int A.length ∧ x.v 13 = D.int i ∧ A.take i = B.take i
def SmQ (A B : List Rn) (x : Ex) (s : St) : Prop := ∃ (y : Env 26) (h : Heap), s = ⟨y.l, h, []⟩ ∧ ((x = .exit 0 ∧ A = B) ∨ (x = .ret ∧ y.v 4 = D.bool false ∧ A ≠ B))
theorem take_eq_step {A B : List Rn} {i : Nat} (h : A.take i = B.take i) (ha : i < A.length) (hb : i < B.length) : A.take (i + 1) = B.take (i + 1) ↔ A[i] = B[i] := by
  rw [take_snoc ha, take_snoc hb, h]
  constructor
  · intro hh; exact (List.singleton_inj.1 (List.append_cancel_left hh))
  · intro hh; rw [hh]
set_option maxHeartbeats 4000000 in
theorem sm_round9 (A B : List Rn) (hl : A.length ≤ 2000000000) (hAB : A.length = B.length) : ∀ n, 1 ≤ n → ∀ k s, SmI A B k s → Res (k9l0.ev ⟨pg, 26, none⟩ (rc pg n) s) (Rnd (SmI A B) (SmQ A B) k) := by
  rintro n hn k s ⟨x, h, i, rfl, hik, v0, v1, v12, v13, ht⟩
  simp only [rnsD] at v0 v1
  by_cases hi : i < A.length
  · have hib : i < B.length := by omega
    obtain ⟨u, hu⟩ : ∃ u, A[i] = u := ⟨_, rfl⟩
    obtain ⟨v, hv⟩ : ∃ v, B[i] = v := ⟨_, rfl⟩
    have hst := take_eq_step ht hi hib
    rw [hu, hv] at hst
    have w1 : IntKind.i64.wrap ((i : Int) + 1) = (i : Int) + 1 := wrap_i64 (by omega) (by omega)
    by_cases hc : u = v
    · have hc1 : (u.1 == v.1 && u.2 == v.2) = true := by simp [hc]
      simp [k9l0, v0, v1, v12, v13, hi, hib, hu, hv, w1, D.cells, rnD, rnC, hc]
      exact ⟨k - 1, by omega, _, _, i + 1, rfl, by omega, by simp [v0, rnsD], by simp [v1, rnsD], by simp [v12], by simp, hst.2 hc⟩
    · have hne : A ≠ B := fun hh => hc (by subst hh; rw [← hu, ← hv])
      have hc12 : (u.1 == v.1 && u.2 == v.2) = false := by
        cases h1 : (u.1 == v.1 && u.2 == v.2) with
        | false => rfl
        | true => simp at h1; exact absurd (Prod.ext h1.1 h1.2) hc
      simp [-Bool.and_eq_true, -Bool.and_eq_false_imp, k9l0, v0, v1, v12, v13, hi, hib, hu, hv, D.cells, rnD, rnC, hc12]
      exact ⟨_, _, rfl, .inr ⟨rfl, by simp, hne⟩⟩
  · simp [k9l0, v12, v13, hi]
    refine ⟨_, _, rfl, .inl ⟨rfl, ?_⟩⟩
    rwa [List.take_of_length_le (by omega), List.take_of_length_le (by omega)] at ht
set_option maxHeartbeats 4000000 in
theorem same_run (A B : List Rn) (hl : A.length ≤ 2000000000) {n : Nat} (hn : A.length + 10 ≤ n) : pureCall (rc pg n) 9 [rnsD A, rnsD B] = some (.ret (D.bool (decide (A = B)))) := by
  obtain ⟨m, rfl, e⟩ := body (pg := pg) (f := 9) (args := [rnsD A, rnsD B]) (show 0 < n by omega) rfl rfl
  rw [e]
  by_cases hAB : A.length = B.length
  · have hb : ((A.length : Int) != B.length) = false := by simp [hAB]
    simp [-bne_eq_false_iff_eq, k9, Env.v_ini, rnsD, ev_loop, hb]
    refine Res.endsAfter (lp_rule 1 (SmI A B) _ (sm_round9 A B hl hAB) A.length m _ (by omega) ⟨_, _, 0, rfl, by omega, by simp [Env.v_ini, rnsD], by simp [Env.v_ini, rnsD], by simp, by simp, by simp⟩) ?_
    rintro x s ⟨y, h, rfl, ⟨rfl, hh⟩ | ⟨rfl, v4, hh⟩⟩
    · rw [decide_eq_true hh]; simp
    · rw [decide_eq_false hh]; simp [v4]
  · have hb : ((A.length : Int) != B.length) = true := by simp; omega
    have hne : A ≠ B := fun hh => hAB (by rw [hh])
    rw [decide_eq_false hne]
    simp [-bne_iff_ne, k9, Env.v_ini, rnsD, hb]
set_option maxHeartbeats 4000000 in
theorem sm_round27 (A B : List Rn) (hl : A.length ≤ 2000000000) (hAB : A.length = B.length) : ∀ n, 1 ≤ n → ∀ k s, SmI A B k s → Res (k27l0.ev ⟨pg, 26, none⟩ (rc pg n) s) (Rnd (SmI A B) (SmQ A B) k) := by
  have e : k27l0 = k9l0 := rfl
  rw [e]
  exact sm_round9 A B hl hAB
set_option maxHeartbeats 4000000 in
theorem equal_run (A B : List Rn) (hl : A.length ≤ 2000000000) {n : Nat} (hn : A.length + 10 ≤ n) : pureCall (rc pg n) 27 [rnsD A, rnsD B] = some (.ret (D.bool (decide (A = B)))) := by
  obtain ⟨m, rfl, e⟩ := body (pg := pg) (f := 27) (args := [rnsD A, rnsD B]) (show 0 < n by omega) rfl rfl
  rw [e]
  by_cases hAB : A.length = B.length
  · have hb : ((A.length : Int) != B.length) = false := by simp [hAB]
    simp [-bne_eq_false_iff_eq, k27, Env.v_ini, rnsD, ev_loop, hb]
    refine Res.endsAfter (lp_rule 1 (SmI A B) _ (sm_round27 A B hl hAB) A.length m _ (by omega) ⟨_, _, 0, rfl, by omega, by simp [Env.v_ini, rnsD], by simp [Env.v_ini, rnsD], by simp, by simp, by simp⟩) ?_
    rintro x s ⟨y, h, rfl, ⟨rfl, hh⟩ | ⟨rfl, v4, hh⟩⟩
    · rw [decide_eq_true hh]; simp
    · rw [decide_eq_false hh]; simp [v4]
  · have hb : ((A.length : Int) != B.length) = true := by simp; omega
    have hne : A ≠ B := fun hh => hAB (by rw [hh])
    rw [decide_eq_false hne]
    simp [-bne_iff_ne, k27, Env.v_ini, rnsD, hb]
def chkR (l : List Rn) : Int := if l.length > 400 then 2 else if l = Runs.rnorm l then 0 else 60
theorem rnorm_self {l : List Rn} : l = Runs.rnorm l ↔ Runs.NF l := by
  obtain ⟨h1, h2⟩ := Runs.rnorm_ok l
  constructor
  · intro h; rw [h]; exact h1
  · intro h; exact Runs.nf_ext h h1 fun y => by rw [h2, Runs.inC_nf h]
theorem equal_call {A B : List Rn} {d : D} {h : Heap} (g : GR h d B) (hl : A.length ≤ 2000000000) {n : Nat} (hn : A.length + 10 ≤ n) : ∃ h', call pg (rc pg n) 27 [rnsD A, d] h = some (.ret (D.bool (decide (A = B))), h') := by
  have x := equal_run A B hl hn
  obtain ⟨ks, h1, _⟩ := ArgR_of (.inl rfl : AR h (rnsD A) A) (.inr g : AR h d B) h (Heap.Gr.refl h)
  exact call_frzk (pg := pg) (f := 27) rfl h1 x
set_option maxHeartbeats 4000000 in
theorem check_run (l : List Rn) (hl : l.length ≤ 2000000) {n : Nat} (hn : bigN + 10 ≤ n) : pureCall (rc pg n) 7 [rnsD l] = some (.ret (D.int (chkR l))) := by
  have hb9 : 2000100 ≤ bigN := by decide
  obtain ⟨m, rfl, e⟩ := body (pg := pg) (f := 7) (args := [rnsD l]) (show 0 < n by omega) rfl rfl
  rw [e]
  unfold chkR
  by_cases h1 : l.length > 400
  · have h1' : (400 : Int) < (l.length : Int) := by omega
    rw [if_pos h1]
    simp [k7, Env.v_ini, rnsD, h1']
  · have h1' : ¬ (400 : Int) < (l.length : Int) := by omega
    rw [if_neg h1]
    obtain ⟨H, hH⟩ : ∃ H, H = ((Heap.empty.bump 11).bump 11).bump 11 := ⟨_, rfl⟩
    obtain ⟨d, h', c, g1, g2, g3⟩ := norm_sh hl (.inl rfl : AR H (rnsD l) l) (by rw [hH]; exact ((Heap.Fr.empty.bump 11).bump 11).bump 11) (n := m) (by omega)
    have cs := call_sh (pg := pg) (f := 10) rfl c
    obtain ⟨h2, ce⟩ := equal_call (A := l) g1 (by omega) (n := m) (by omega)
    simp only [rnsD] at cs ce
    by_cases h2' : l = Runs.rnorm l
    · rw [decide_eq_true h2'] at ce
      rw [if_pos h2']
      simp [k7, Env.v_ini, rnsD, h1', ← hH, cs, ce]
    · rw [decide_eq_false h2'] at ce
      rw [if_neg h2']
      simp [k7, Env.v_ini, rnsD, h1', ← hH, cs, ce]
end Go.Proofs.YtlddgfkdicgbeaaGreatDoor
/- Whether a list is a normal form, by the document; the law of sets. -/
namespace Go.Proofs.YtlddgfkdicgbeaaGreatDoor
open Go Go.Em
set_option maxRecDepth 100000
instance okR_dec (r : Rn) : Decidable (Runs.okR r) := inferInstanceAs (Decidable (_ ∧ _ ∧ _))
def prevOK (p : Option Int) (r : Rn) : Bool := match p with
  | none => true
  | some q => decide (q + 2 ≤ r.1)
def nfB (p : Option Int) : List Rn → Bool
  | [] => true
  | r :: l => decide (Runs.okR r) && (prevOK p r && nfB (some r.2) l)
theorem nfB_some : ∀ (l : List Rn) (p : Int), nfB (some p) l = true ↔ Runs.NF l ∧ ∀ s, s ∈ l → p + 2 ≤ s.1
  | [], p => ⟨fun _ => ⟨Runs.nf_nil, fun s hs => by simp at hs⟩, fun _ => rfl⟩
  | r :: l, p => by
    have ih := nfB_some l r.2
    rw [nfB, Bool.and_eq_true, Bool.and_eq_true, ih, Runs.nf_cons, decide_eq_true_iff]
    show Runs.okR r ∧ decide (p + 2 ≤ r.1) = true ∧ _ ↔ _
    rw [decide_eq_true_iff]
    constructor
    · rintro ⟨h1, h2, h3, h4⟩
      refine ⟨⟨h1, h3, h4⟩, fun s hs => ?_⟩
      rcases List.mem_cons.1 hs with rfl | hs
      · exact h2
      · have := h4 s hs; have := h1.2.1; omega
    · rintro ⟨⟨h1, h3, h4⟩, h5⟩
      exact ⟨h1, h5 r List.mem_cons_self, h3, h4⟩
theorem nfB_none (l : List Rn) : nfB none l = true ↔ Runs.NF l := by
  cases l with
  | nil => exact ⟨fun _ => Runs.nf_nil, fun _ => rfl⟩
  | cons r l =>
    rw [nfB, Bool.and_eq_true, Bool.and_eq_true, nfB_some, Runs.nf_cons, decide_eq_true_iff]
    exact ⟨fun ⟨h1, _, h3, h4⟩ => ⟨h1, h3, h4⟩, fun ⟨h1, h3, h4⟩ => ⟨h1, rfl, h3, h4⟩⟩
def prevAt (l : List Rn) (i : Nat) : Option Int := if i = 0 then none else (l[i - 1]?).map (·.2)
def CkI (l : List Rn) (k : Nat) (s : St) : Prop := ∃ (x : Env 59) (h : Heap) (i : Nat), s = ⟨x.l, h, []⟩ ∧ i + k = l.length ∧ x.v 0 = rnsD l ∧ x.v 3 = D.int i ∧ nfB none l = nfB (prevAt l i) (l.drop i) ∧ ∀ j, j < i → ∀ h : j < l.length, Runs.okR l[j]
def CkQ (l : List Rn) (x : Ex) (s : St) : Prop := ∃ (y : Env 59) (h : Heap), s = ⟨y.l, h, []⟩ ∧ ((x = .exit 0 ∧ nfB none l = true) ∨ (x = .ret ∧ y.v 2 = D.int 60 ∧ nfB none l = false))
set_option maxHeartbeats 16000000 in
theorem ck_round (l : List Rn) (hl : l.length ≤ 400) : ∀ n, 1 ≤ n → ∀ k s, CkI l k s → Res (k8l0.ev ⟨pg, 59, none⟩ (rc pg n) s) (Rnd (CkI l) (CkQ l) k) := by
  rintro n hn k s ⟨x, h, i, rfl, hik, v0, v3, hB, hok⟩
  simp only [rnsD] at v0
  by_cases hi : i < l.length
  · obtain ⟨r, hr⟩ : ∃ r, l[i] = r := ⟨_, rfl⟩
    rw [List.drop_eq_getElem_cons hi, hr, nfB] at hB
    have w1 : IntKind.i64.wrap ((i : Int) + 1) = (i : Int) + 1 := wrap_i64 (by omega) (by omega)
    have hF : Runs.FAR = 1000000000 := rfl
    have hnext : prevAt l (i + 1) = some r.2 := by
      unfold prevAt
      rw [if_neg (by omega), Nat.add_sub_cancel, List.getElem?_eq_getElem hi, hr]; rfl
    by_cases ho : Runs.okR r
    · obtain ⟨o1, o2, o3⟩ := id ho
      have c1 : ¬ r.2 < r.1 := by omega
      have c2 : ¬ r.1 < -1000000000 := by omega
      have c3 : ¬ (1000000000 : Int) < r.2 := by omega
      rw [decide_eq_true ho, Bool.true_and] at hB
      have hok' : ∀ j, j < i + 1 → ∀ h : j < l.length, Runs.okR l[j] := fun j hj h => by
        by_cases hji : j = i
        · subst hji; rw [hr]; exact ho
        · exact hok j (by omega) h
      by_cases hz : i = 0
      · subst hz
        have hp : prevOK (prevAt l 0) r = true := rfl
        rw [hp, Bool.true_and, ← hnext] at hB
        have hi' : 0 < l.length := hi
        have w0 : IntKind.i64.wrap 1 = 1 := by decide
        simp [k8l0, v0, v3, hi', hr, w0, rnD, rnC, D.cells, c1, c2, c3]
        exact ⟨k - 1, by omega, _, _, 1, rfl, by omega, by simp [v0, rnsD], by simp, hB, hok'⟩
      · obtain ⟨q, hq⟩ : ∃ q, l[i - 1] = q := ⟨_, rfl⟩
        have hq1 : i - 1 < l.length := by omega
        have hqo : Runs.okR q := hq ▸ hok (i - 1) (by omega) hq1
        obtain ⟨p1, p2, p3⟩ := hqo
        have hp : prevOK (prevAt l i) r = decide (q.2 + 2 ≤ r.1) := by
          unfold prevAt
          rw [if_neg hz, List.getElem?_eq_getElem hq1, hq]; rfl
        have hi0 : 0 < i := by omega
        have w2 : IntKind.i64.wrap ((i : Int) - 1) = ((i - 1 : Nat) : Int) := by rw [wrap_i64 (by omega) (by omega)]; omega
        have w3 : IntKind.i64.wrap (q.2 + 2) = q.2 + 2 := wrap_i64 (by omega) (by omega)
        rw [hp] at hB
        obtain ⟨i1, hi1⟩ : ∃ i1, i1 = i - 1 := ⟨_, rfl⟩
        rw [← hi1] at w2 hq1
        have hq' : l[i1] = q := by rw [← hq]; congr 1
        by_cases hc : q.2 + 2 ≤ r.1
        · have hc' : ¬ r.1 < q.2 + 2 := by omega
          rw [decide_eq_true hc, Bool.true_and, ← hnext] at hB
          simp [k8l0, v0, v3, hi, hr, rnD, rnC, D.cells, c1, c2, c3, hi0, w1, w2, w3, hq1, hq', hc']
          exact ⟨k - 1, by omega, _, _, i + 1, rfl, by omega, by simp [v0, rnsD], by simp, hB, hok'⟩
        · have hc' : r.1 < q.2 + 2 := by omega
          rw [decide_eq_false hc, Bool.false_and] at hB
          simp [k8l0, v0, v3, hi, hr, rnD, rnC, D.cells, c1, c2, c3, hi0, w2, w3, hq1, hq', hc']
          exact ⟨_, _, rfl, .inr ⟨rfl, by simp, hB⟩⟩
    · rw [decide_eq_false ho, Bool.false_and] at hB
      by_cases c1 : r.2 < r.1
      · simp [k8l0, v0, v3, hi, hr, rnD, rnC, D.cells, c1]
        exact ⟨_, _, rfl, .inr ⟨rfl, by simp, hB⟩⟩
      · by_cases c2 : r.1 < -1000000000
        · simp [k8l0, v0, v3, hi, hr, rnD, rnC, D.cells, c1, c2]
          exact ⟨_, _, rfl, .inr ⟨rfl, by simp, hB⟩⟩
        · have c3 : (1000000000 : Int) < r.2 := by
            apply Decidable.byContradiction
            intro hh
            exact ho ⟨by omega, by omega, by omega⟩
          simp [k8l0, v0, v3, hi, hr, rnD, rnC, D.cells, c1, c2, c3]
          exact ⟨_, _, rfl, .inr ⟨rfl, by simp, hB⟩⟩
  · simp [k8l0, v0, v3, hi]
    refine ⟨_, _, rfl, .inl ⟨rfl, ?_⟩⟩
    rw [hB, List.drop_of_length_le (by omega)]
    rfl
set_option maxHeartbeats 4000000 in
theorem rcheck_run (l : List Rn) (hl : l.length ≤ 2000000) {n : Nat} (hn : 500 ≤ n) : pureCall (rc pg n) 8 [rnsD l] = some (.ret (D.int (chkR l))) := by
  obtain ⟨m, rfl, e⟩ := body (pg := pg) (f := 8) (args := [rnsD l]) (show 0 < n by omega) rfl rfl
  rw [e]
  unfold chkR
  by_cases h1 : l.length > 400
  · have h1' : (400 : Int) < (l.length : Int) := by omega
    rw [if_pos h1]
    simp [k8, Env.v_ini, rnsD, h1']
  · have h1' : ¬ (400 : Int) < (l.length : Int) := by omega
    rw [if_neg h1]
    simp [k8, Env.v_ini, rnsD, h1', ev_loop]
    refine Res.endsAfter (lp_rule 1 (CkI l) _ (ck_round l (by omega)) l.length m _ (by omega) ⟨_, _, 0, rfl, by omega, by simp [Env.v_ini, rnsD], by simp, rfl, fun j hj => by omega⟩) ?_
    rintro x s ⟨y, h, rfl, ⟨rfl, hh⟩ | ⟨rfl, v2, hh⟩⟩
    · rw [if_pos (rnorm_self.2 ((nfB_none l).1 hh))]; simp
    · rw [if_neg (fun he => by rw [(nfB_none l).2 (rnorm_self.1 he)] at hh; exact absurd hh (by simp))]; simp [v2]
theorem same_call {A B : List Rn} {d : D} {h : Heap} (g : GR h d A) (hl : A.length ≤ 2000000000) {n : Nat} (hn : A.length + 10 ≤ n) : ∃ h', call pg (rc pg n) 9 [d, rnsD B] h = some (.ret (D.bool (decide (A = B))), h') := by
  have x := same_run A B hl hn
  obtain ⟨ks, h1, _⟩ := ArgR_of (.inr g : AR h d A) (.inl rfl : AR h (rnsD B) B) h (Heap.Gr.refl h)
  exact call_frzk (pg := pg) (f := 9) rfl h1 x
set_option maxHeartbeats 8000000 in
theorem sets_law (a b : List Rn) (ha : a.length ≤ 2000000) (hb : b.length ≤ 2000000) {n : Nat} (hn1 : bigN + 100 ≤ n) (hn : 2020001000 ≤ n) : pureCall (rc pg n) 3 [rnsD a, rnsD b] = some (.ret (D.bool true)) := by
  obtain ⟨m, rfl, e⟩ := body (pg := pg) (f := 3) (args := [rnsD a, rnsD b]) (show 0 < n by omega) rfl rfl
  rw [e]
  have c7 := fun h => call_of (h := h) (pg := pg) (f := 7) rfl (rns_can a) (check_run a ha (n := m) (by omega))
  have c8 := fun h => call_of (h := h) (pg := pg) (f := 8) rfl (rns_can a) (rcheck_run a ha (n := m) (by omega))
  have c11 := fun h => call_of (h := h) (pg := pg) (f := 11) rfl (rns_can a) (rnorm_run a (by omega) (n := m) (by omega))
  have c12 := fun h => call_of (h := h) (pg := pg) (f := 12) rfl (rns_can2 a b) (union_run ha hb (n := m) (by omega))
  have c13 := fun h => call_of (h := h) (pg := pg) (f := 13) rfl (rns_can2 a b) (runion_run a b (by omega) (by omega) (n := m) (by omega))
  have c14 := fun h => call_of (h := h) (pg := pg) (f := 14) rfl (rns_can2 a b) (common_run ha hb (n := m) (by omega))
  have c15 := fun h => call_of (h := h) (pg := pg) (f := 15) rfl (rns_can2 a b) (rcommon_run a b (by omega) (by omega) (n := m) (by omega))
  have c16 := fun h => call_of (h := h) (pg := pg) (f := 16) rfl (rns_can2 a b) (less_run ha hb (n := m) (by omega))
  have c17 := fun h => call_of (h := h) (pg := pg) (f := 17) rfl (rns_can2 a b) (rless_run a b ha hb (n := m) (by omega))
  have sm : ∀ A : List Rn, A.length ≤ 1000000001 → ∀ h, call pg (rc pg m) 9 [rnsD A, rnsD A] h = some (.ret (D.bool true), h) := fun A hA h => by
    have := call_of (h := h) (pg := pg) (f := 9) rfl (rns_can2 A A) (same_run A A (by omega) (n := m) (by omega))
    rwa [decide_eq_true rfl] at this
  have s1 := sm (Runs.runion a b) (nf_len' (Runs.runion_ok a b).1)
  have s2 := sm (Runs.rcommon a b) (nf_len' (Runs.rcommon_ok a b).1)
  have s3 := sm (Runs.rless a b) (nf_len' (Runs.rless_ok a b).1)
  have hs := fun h => sane_call (n := m) (by omega) h
  obtain ⟨H, hH⟩ : ∃ H, H = (Heap.empty.bump 47).bump 47 := ⟨_, rfl⟩
  obtain ⟨d, h', c, g1, g2, g3⟩ := norm_sh ha (.inl rfl : AR H (rnsD a) a) (by rw [hH]; exact (Heap.Fr.empty.bump 47).bump 47) (n := m) (by omega)
  have c10 := call_sh (pg := pg) (f := 10) rfl c
  obtain ⟨h2, c9⟩ := same_call (B := Runs.rnorm a) g1 (by have := nf_len' (Runs.rnorm_ok a).1; omega) (n := m) (by have := nf_len' (Runs.rnorm_ok a).1; omega)
  rw [decide_eq_true rfl] at c9
  simp only [rnsD] at c7 c8 c9 c10 c11 c12 c13 c14 c15 c16 c17 s1 s2 s3
  simp [k3, Env.v_ini, rnsD, c7, c8, ← hH, c10, c11, c9, c12, c13, c14, c15, c16, c17, s1, s2, s3, hs]
end Go.Proofs.YtlddgfkdicgbeaaGreatDoor
