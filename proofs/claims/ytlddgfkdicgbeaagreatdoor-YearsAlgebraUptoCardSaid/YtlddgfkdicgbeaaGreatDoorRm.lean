/- Lists of runs compared; whether a list is a normal form, by the program and by the document. -/
import Derived.Test.YtlddgfkdicgbeaaGreatDoorRk
import Derived.Test.YtlddgfkdicgbeaaGreatDoorSane
namespace Go.Proofs.YtlddgfkdicgbeaaGreatDoor
open Go Go.Em
set_option maxRecDepth 100000
def SmI (A B : List Rn) (k : Nat) (s : St) : Prop := ∃ (x : Env 26) (h : Heap) (i : Nat), s = ⟨x.l, h, []⟩ ∧ i + k = A.length ∧ x.v 0 = rnsD A ∧ x.v 1 = rnsD B ∧ x.v 12 = D.int A.length ∧ x.v 13 = D.int i ∧ A.take i = B.take i
def SmQ (A B : List Rn) (x : Ex) (s : St) : Prop := ∃ (y : Env 26) (h : Heap), s = ⟨y.l, h, []⟩ ∧ ((x = .exit 0 ∧ A = B) ∨ (x = .ret ∧ y.v 4 = D.bool false ∧ A ≠ B))
theorem take_eq_step {A B : List Rn} {i : Nat} (h : A.take i = B.take i) (ha : i < A.length) (hb : i < B.length) : A.take (i + 1) = B.take (i + 1) ↔ A[i] = B[i] := by
  rw [take_snoc ha, take_snoc hb, h]
  constructor
  · intro hh; exact (List.singleton_inj.1 (List.append_cancel_left hh))
  · intro hh; rw [hh]
set_option maxHeartbeats 4000000 in
theorem sm_round9 (A B : List Rn) (hl : A.length ≤ 2000000000) (hAB : A.length = B.length) : ∀ n, 1 ≤ n → ∀ k s, SmI A B k s → Res (k9l0.ev ⟨pg, 26, none⟩ (rc pg n) s) (Rnd (SmI A B) (SmQ A B) k) := by
  rintro n hn k s ⟨x, h, i, rfl, hik, v0, v1, v12, v13, ht⟩
  simp only [rnsD] at v0 v1
  by_cases hi : i < A.length
  · have hib : i < B.length := by omega
    obtain ⟨u, hu⟩ : ∃ u, A[i] = u := ⟨_, rfl⟩
    obtain ⟨v, hv⟩ : ∃ v, B[i] = v := ⟨_, rfl⟩
    have hst := take_eq_step ht hi hib
    rw [hu, hv] at hst
    have w1 : IntKind.i64.wrap ((i : Int) + 1) = (i : Int) + 1 := wrap_i64 (by omega) (by omega)
    by_cases hc : u = v
    · have hc1 : (u.1 == v.1 && u.2 == v.2) = true := by simp [hc]
      simp [k9l0, v0, v1, v12, v13, hi, hib, hu, hv, w1, D.cells, rnD, rnC, hc]
      exact ⟨k - 1, by omega, _, _, i + 1, rfl, by omega, by simp [v0, rnsD], by simp [v1, rnsD], by simp [v12], by simp, hst.2 hc⟩
    · have hne : A ≠ B := fun hh => hc (by subst hh; rw [← hu, ← hv])
      have hc12 : (u.1 == v.1 && u.2 == v.2) = false := by
        cases h1 : (u.1 == v.1 && u.2 == v.2) with
        | false => rfl
        | true => simp at h1; exact absurd (Prod.ext h1.1 h1.2) hc
      simp [-Bool.and_eq_true, -Bool.and_eq_false_imp, k9l0, v0, v1, v12, v13, hi, hib, hu, hv, D.cells, rnD, rnC, hc12]
      exact ⟨_, _, rfl, .inr ⟨rfl, by simp, hne⟩⟩
  · simp [k9l0, v12, v13, hi]
    refine ⟨_, _, rfl, .inl ⟨rfl, ?_⟩⟩
    rwa [List.take_of_length_le (by omega), List.take_of_length_le (by omega)] at ht
set_option maxHeartbeats 4000000 in
theorem same_run (A B : List Rn) (hl : A.length ≤ 2000000000) {n : Nat} (hn : A.length + 10 ≤ n) : pureCall (rc pg n) 9 [rnsD A, rnsD B] = some (.ret (D.bool (decide (A = B)))) := by
  obtain ⟨m, rfl, e⟩ := body (pg := pg) (f := 9) (args := [rnsD A, rnsD B]) (show 0 < n by omega) rfl rfl
  rw [e]
  by_cases hAB : A.length = B.length
  · have hb : ((A.length : Int) != B.length) = false := by simp [hAB]
    simp [-bne_eq_false_iff_eq, k9, Env.v_ini, rnsD, ev_loop, hb]
    refine Res.endsAfter (lp_rule 1 (SmI A B) _ (sm_round9 A B hl hAB) A.length m _ (by omega) ⟨_, _, 0, rfl, by omega, by simp [Env.v_ini, rnsD], by simp [Env.v_ini, rnsD], by simp, by simp, by simp⟩) ?_
    rintro x s ⟨y, h, rfl, ⟨rfl, hh⟩ | ⟨rfl, v4, hh⟩⟩
    · rw [decide_eq_true hh]; simp
    · rw [decide_eq_false hh]; simp [v4]
  · have hb : ((A.length : Int) != B.length) = true := by simp; omega
    have hne : A ≠ B := fun hh => hAB (by rw [hh])
    rw [decide_eq_false hne]
    simp [-bne_iff_ne, k9, Env.v_ini, rnsD, hb]
theorem rnorm_self {l : List Rn} : l = Runs.rnorm l ↔ Runs.NF l := by
  obtain ⟨h1, h2⟩ := Runs.rnorm_ok l
  constructor
  · intro h; rw [h]; exact h1
  · intro h; exact Runs.nf_ext h h1 fun y => by rw [h2, Runs.inC_nf h]
end Go.Proofs.YtlddgfkdicgbeaaGreatDoor
/- Whether a list is a normal form, by the document; the law of sets. -/
namespace Go.Proofs.YtlddgfkdicgbeaaGreatDoor
open Go Go.Em
set_option maxRecDepth 100000
instance okR_dec (r : Rn) : Decidable (Runs.okR r) := inferInstanceAs (Decidable (_ ∧ _ ∧ _))
end Go.Proofs.YtlddgfkdicgbeaaGreatDoor
/- How many years a set has, by the program and by the document. -/
namespace Go.Proofs.YtlddgfkdicgbeaaGreatDoor
open Go Go.Em
set_option maxRecDepth 100000
theorem rn_drop : ∀ (l : List Rn) (i : Nat), (l.flatMap rnC).drop (i * 2) = (l.drop i).flatMap rnC
  | l, 0 => by rw [Nat.zero_mul]; rfl
  | [], i + 1 => by simp
  | e :: l, i + 1 => by
    rw [List.drop_succ_cons, List.flatMap_cons, show (i + 1) * 2 = (rnC e).length + i * 2 by show _ = 2 + i * 2; omega, List.drop_length_add_append]
    exact rn_drop l i
theorem rn_get {T : List Rn} {i : Nat} (hi : i < T.length) : ((T.flatMap rnC).drop (i * 2)).take 2 = [D.int T[i].1, D.int T[i].2] := by
  rw [rn_drop, List.drop_eq_getElem_cons hi, List.flatMap_cons]; rfl
def farR (r : Rn) : Bool := r.1 == -1000000000 || r.2 == 1000000000
def szG : List Rn → Int → Int × Int
  | [], acc => (acc, 0)
  | r :: T, acc => if farR r = true then (0, 5) else szG T (acc + (r.2 - r.1 + 1))
def SzI (T : List Rn) (d : D) (R : Int × Int) (k : Nat) (s : St) : Prop := ∃ (x : Env 32) (h : Heap) (i : Nat) (acc : Int), s = ⟨x.l, h, []⟩ ∧ i + k = T.length ∧ x.v 8 = d ∧ x.v 9 = D.int T.length ∧ x.v 10 = D.int i ∧ x.v 4 = D.int acc ∧ GR h d T ∧ h.Fr ∧ szG (T.drop i) acc = R ∧ 0 ≤ acc ∧ acc ≤ (i : Int) * 2000000001
def SzQ (R : Int × Int) (x : Ex) (s : St) : Prop := (x = .exit 0 ∧ ∃ (y : Env 32) (h : Heap), s = ⟨y.l, h, []⟩ ∧ y.v 4 = D.int R.1 ∧ R.2 = 0) ∨ (x = .ret ∧ ∃ (y : Env 32) (h : Heap), s = ⟨y.l, h, []⟩ ∧ y.v 2 = D.int R.1 ∧ y.v 3 = D.int R.2)
set_option maxHeartbeats 8000000 in
theorem sz_round (T : List Rn) (d : D) (R : Int × Int) (hT : T.length ≤ 4000000) (hok : ∀ r, r ∈ T → Runs.okR r) : ∀ n, 1 ≤ n → ∀ k s, SzI T d R k s → Res (k19l0.ev ⟨pg, 32, none⟩ (rc pg n) s) (Rnd (SzI T d R) (SzQ R) k) := by
  rintro n hn k s ⟨x, h, i, acc, rfl, hik, v8, v9, v10, v4, hd, hf, hR, ha1, ha2⟩
  by_cases hi : i < T.length
  · obtain ⟨r, hr⟩ : ∃ r, T[i] = r := ⟨_, rfl⟩
    have hro : Runs.okR r := hr ▸ hok _ (List.getElem_mem hi)
    obtain ⟨o1, o2, o3⟩ := hro
    have hF : Runs.FAR = 1000000000 := rfl
    rw [List.drop_eq_getElem_cons hi, hr, szG] at hR
    have hG := rn_get hi
    rw [hr] at hG
    rcases hd with ⟨hO0, _⟩ | ⟨kk, rfl, hg, hkk⟩
    · rw [hO0] at hi; simp at hi
    have hcl := cells_rn T
    have hd' : GR h (.slr kk 0 T.length 2 none) T := .inr ⟨kk, rfl, hg, hkk⟩
    obtain ⟨C, hC⟩ : ∃ C, C = T.flatMap rnC := ⟨_, rfl⟩
    rw [← hC] at hg hG hcl
    have hb : i * 2 + 2 ≤ C.length := by omega
    have w1 : IntKind.i64.wrap ((i : Int) + 1) = (i : Int) + 1 := wrap_i64 (by omega) (by omega)
    have w2 : IntKind.i64.wrap (r.2 - r.1) = r.2 - r.1 := wrap_i64 (by omega) (by omega)
    have w3 : IntKind.i64.wrap (r.2 - r.1 + 1) = r.2 - r.1 + 1 := wrap_i64 (by omega) (by omega)
    have w4 : IntKind.i64.wrap (acc + (r.2 - r.1 + 1)) = acc + (r.2 - r.1 + 1) := wrap_i64 (by omega) (by omega)
    have hfr : ∀ j, h.raw (h.next + j) = none := fun j => hf _ (by omega)
    by_cases c1 : r.1 = -1000000000
    · have hfar : farR r = true := by unfold farR; simp [c1]
      rw [if_pos hfar] at hR
      subst hR
      have c1' : (r.1 == -1000000000) = true := by simp [c1]
      simp [-beq_iff_eq, k19l0, v8, v9, v10, hi, hg, hb, hG, D.cells, D.one, hfr, Nat.add_assoc, c1']
      exact .inr ⟨rfl, _, _, rfl, by simp, by simp⟩
    · have c1' : (r.1 == -1000000000) = false := by simp [c1]
      by_cases c2 : r.2 = 1000000000
      · have hfar : farR r = true := by unfold farR; simp [c2]
        rw [if_pos hfar] at hR
        subst hR
        have c2' : (r.2 == 1000000000) = true := by simp [c2]
        simp [-beq_iff_eq, -beq_eq_false_iff_ne, k19l0, v8, v9, v10, hi, hg, hb, hG, D.cells, D.one, hfr, Nat.add_assoc, c1', c2']
        exact .inr ⟨rfl, _, _, rfl, by simp, by simp⟩
      · have c2' : (r.2 == 1000000000) = false := by simp [c2]
        have hfar : farR r = false := by unfold farR; rw [c1', c2']; rfl
        rw [if_neg (by simp [hfar])] at hR
        simp [-beq_iff_eq, -beq_eq_false_iff_ne, k19l0, v4, v8, v9, v10, hi, hg, hb, hG, D.cells, D.one, hfr, Nat.add_assoc, c1', c2', w1, w2, w3, w4]
        refine ⟨k - 1, by omega, _, _, i + 1, acc + (r.2 - r.1 + 1), rfl, by omega, by simp [v8], by simp [v9], by simp, by simp, ?_, ?_, hR, by omega, by omega⟩
        · refine hd'.keep (by simp <;> omega) fun q hq => ?_
          have ne3 : ∀ j, (q = h.next + j) = False := fun j => by simp; omega
          simp [ne3]
        · repeat' first | exact hf | apply Heap.Fr.bump | apply Heap.Fr.set
          all_goals (simp <;> omega)
  · simp [k19l0, v9, v10, hi]
    rw [List.drop_of_length_le (by omega), szG] at hR
    subst hR
    exact .inl ⟨rfl, _, _, rfl, by simp [v4], rfl⟩
def szR (l : List Rn) : D := .tup [D.int (szG (Runs.rnorm l) 0).1, D.int (szG (Runs.rnorm l) 0).2]
theorem rnorm_len (l : List Rn) : (Runs.rnorm l).length ≤ l.length := by
  have lb := addL_len l []
  show (Runs.addL [] l).length ≤ _
  simpa using lb
set_option maxHeartbeats 8000000 in
theorem size_run (l : List Rn) (hl : l.length ≤ 2000000) {n : Nat} (hn1 : bigN + 100 ≤ n) : pureCall (rc pg n) 19 [rnsD l] = some (.ret (szR l)) := by
  have hb9 : 4000100 ≤ bigN := by decide
  obtain ⟨m, rfl, e⟩ := body (pg := pg) (f := 19) (args := [rnsD l]) (show 0 < n by omega) rfl rfl
  rw [e]
  obtain ⟨H, hH⟩ : ∃ H, H = ((Heap.empty.bump 32).bump 32).bump 32 := ⟨_, rfl⟩
  obtain ⟨d, h', c, g1, g2, g3⟩ := norm_sh hl (.inl rfl : AR H (rnsD l) l) (by rw [hH]; exact ((Heap.Fr.empty.bump 32).bump 32).bump 32) (n := m) (by omega)
  have c10 := call_sh (pg := pg) (f := 10) rfl c
  have hT := rnorm_len l
  have hok := (Runs.rnorm_ok l).1.1
  unfold szR
  obtain ⟨T, hTT⟩ : ∃ T, T = Runs.rnorm l := ⟨_, rfl⟩
  rw [← hTT] at g1 hT hok ⊢
  obtain ⟨R, hR⟩ : ∃ R, szG T 0 = R := ⟨_, rfl⟩
  rw [hR]
  simp only [rnsD] at c10
  rcases g1 with ⟨hO0, rfl⟩ | ⟨kk, rfl, hg, hkk⟩
  · subst hO0
    simp [k19, Env.v_ini, rnsD, ev_loop, ← hH, c10]
    refine Res.endsAfter (lp_rule 1 (SzI [] (.val (.slice none 0 0)) R) _ (sz_round [] _ R (by simp) (fun r hr => by simp at hr)) 0 m _ (by omega) ⟨_, _, 0, 0, rfl, by simp, by simp, by simp, by simp, by simp, .inl ⟨rfl, rfl⟩, g2, by simpa using hR, by omega, by omega⟩) ?_
    rintro x s (⟨rfl, y, h, rfl, w4, hz⟩ | ⟨rfl, y, h, rfl, w2, w3⟩)
    · simp [w4, hz]
    · simp [w2, w3]
  · simp [k19, Env.v_ini, rnsD, ev_loop, ← hH, c10]
    refine Res.endsAfter (lp_rule 1 (SzI T (.slr kk 0 T.length 2 none) R) _ (sz_round T _ R (by omega) hok) T.length m _ (by omega) ⟨_, _, 0, 0, rfl, by simp, by simp, by simp, by simp, by simp, .inr ⟨kk, rfl, hg, hkk⟩, g2, by simpa using hR, by omega, by omega⟩) ?_
    rintro x s (⟨rfl, y, h, rfl, w4, hz⟩ | ⟨rfl, y, h, rfl, w2, w3⟩)
    · simp [w4, hz]
    · simp [w2, w3]
end Go.Proofs.YtlddgfkdicgbeaaGreatDoor
