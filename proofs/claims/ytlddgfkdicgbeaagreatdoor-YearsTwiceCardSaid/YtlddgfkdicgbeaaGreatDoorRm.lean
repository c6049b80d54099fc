/- Lists of runs compared; whether a list is a normal form, by the program and by the document. -/
import Derived.Test.YtlddgfkdicgbeaaGreatDoorRk
import Derived.Test.YtlddgfkdicgbeaaGreatDoorSane
namespace Go.Proofs.YtlddgfkdicgbeaaGreatDoor
open Go Go.Em
set_option maxRecDepth 100000
def SmI (A B : List Rn) (k : Nat) (s : St) : Prop := ∃ (x : Env 26) (h : Heap) (i : Nat), s = ⟨x.l, h, []⟩ ∧ i + k = A.length ∧ x.v 0 = rnsD A ∧ x.v 1 = rnsD B ∧ x.v 12 = D.int A.length ∧ x.v 13 = D.int i ∧ A.take i = B.take i
def SmQ (A B : List Rn) (x : Ex) (s : St) : Prop := ∃ (y : Env 26) (h : Heap), s = ⟨y.l, h, []⟩ ∧ ((x = .exit 0 ∧ A = B) ∨ (x = .ret ∧ y.v 4 = D.bool false ∧ A ≠ B))
theorem take_eq_step {A B : List Rn} {i : Nat} (h : A.take i = B.take i) (ha : i < A.length) (hb : i < B.length) : A.take (i + 1) = B.take (i + 1) ↔ A[i] = B[i] := by
  rw [take_snoc ha, take_snoc hb, h]
  constructor
  · intro hh; exact (List.singleton_inj.1 (List.append_cancel_left hh))
  · intro hh; rw [hh]
set_option maxHeartbeats 4000000 in
theorem sm_round9 (A B : List Rn) (hl : A.length ≤ 2000000000) (hAB : A.length = B.length) : ∀ n, 1 ≤ n → ∀ k s, SmI A B k s → Res (k9l0.ev ⟨pg, 26, none⟩ (rc pg n) s) (Rnd (SmI A B) (SmQ A B) k) := by
  rintro n hn k s ⟨x, h, i, rfl, hik, v0, v1, v12, v13, ht⟩
  simp only [rnsD] at v0 v1
  by_cases hi : i < A.length
  · have hib : i < B.length := by omega
    obtain ⟨u, hu⟩ : ∃ u, A[i] = u := ⟨_, rfl⟩
    obtain ⟨v, hv⟩ : ∃ v, B[i] = v := ⟨_, rfl⟩
    have hst := take_eq_step ht hi hib
    rw [hu, hv] at hst
    have w1 : IntKind.i64.wrap ((i : Int) + 1) = (i : Int) + 1 := wrap_i64 (by omega) (by omega)
    by_cases hc : u = v
    · have hc1 : (u.1 == v.1 && u.2 == v.2) = true := by simp [hc]
      simp [k9l0, v0, v1, v12, v13, hi, hib, hu, hv, w1, D.cells, rnD, rnC, hc]
      exact ⟨k - 1, by omega, _, _, i + 1, rfl, by omega, by simp [v0, rnsD], by simp [v1, rnsD], by simp [v12], by simp, hst.2 hc⟩
    · have hne : A ≠ B := fun hh => hc (by subst hh; rw [← hu, ← hv])
      have hc12 : (u.1 == v.1 && u.2 == v.2) = false := by
        cases h1 : (u.1 == v.1 && u.2 == v.2) with
        | false => rfl
        | true => simp at h1; exact absurd (Prod.ext h1.1 h1.2) hc
      simp [-Bool.and_eq_true, -Bool.and_eq_false_imp, k9l0, v0, v1, v12, v13, hi, hib, hu, hv, D.cells, rnD, rnC, hc12]
      exact ⟨_, _, rfl, .inr ⟨rfl, by simp, hne⟩⟩
  · simp [k9l0, v12, v13, hi]
    refine ⟨_, _, rfl, .inl ⟨rfl, ?_⟩⟩
    rwa [List.take_of_length_le (by omega), List.take_of_length_le (by omega)] at ht
set_option maxHeartbeats 4000000 in
theorem same_run (A B : List Rn) (hl : A.length ≤ 2000000000) {n : Nat} (hn : A.length + 10 ≤ n) : pureCall (rc pg n) 9 [rnsD A, rnsD B] = some (.ret (D.bool (decide (A = B)))) := by
  obtain ⟨m, rfl, e⟩ := body (pg := pg) (f := 9) (args := [rnsD A, rnsD B]) (show 0 < n by omega) rfl rfl
  rw [e]
  by_cases hAB : A.length = B.length
  · have hb : ((A.length : Int) != B.length) = false := by simp [hAB]
    simp [-bne_eq_false_iff_eq, k9, Env.v_ini, rnsD, ev_loop, hb]
    refine Res.endsAfter (lp_rule 1 (SmI A B) _ (sm_round9 A B hl hAB) A.length m _ (by omega) ⟨_, _, 0, rfl, by omega, by simp [Env.v_ini, rnsD], by simp [Env.v_ini, rnsD], by simp, by simp, by simp⟩) ?_
    rintro x s ⟨y, h, rfl, ⟨rfl, hh⟩ | ⟨rfl, v4, hh⟩⟩
    · rw [decide_eq_true hh]; simp
    · rw [decide_eq_false hh]; simp [v4]
  · have hb : ((A.length : Int) != B.length) = true := by simp; omega
    have hne : A ≠ B := fun hh => hAB (by rw [hh])
    rw [decide_eq_false hne]
    simp [-bne_iff_ne, k9, Env.v_ini, rnsD, hb]
end Go.Proofs.YtlddgfkdicgbeaaGreatDoor
/- Whether a list is a normal form, by the document; the law of sets. -/
namespace Go.Proofs.YtlddgfkdicgbeaaGreatDoor
open Go Go.Em
set_option maxRecDepth 100000
instance okR_dec (r : Rn) : Decidable (Runs.okR r) := inferInstanceAs (Decidable (_ ∧ _ ∧ _))
end Go.Proofs.YtlddgfkdicgbeaaGreatDoor
/- How many years a set has, by the program and by the document. -/
namespace Go.Proofs.YtlddgfkdicgbeaaGreatDoor
open Go Go.Em
set_option maxRecDepth 100000
theorem rn_drop : ∀ (l : List Rn) (i : Nat), (l.flatMap rnC).drop (i * 2) = (l.drop i).flatMap rnC
  | l, 0 => by rw [Nat.zero_mul]; rfl
  | [], i + 1 => by simp
  | e :: l, i + 1 => by
    rw [List.drop_succ_cons, List.flatMap_cons, show (i + 1) * 2 = (rnC e).length + i * 2 by show _ = 2 + i * 2; omega, List.drop_length_add_append]
    exact rn_drop l i
theorem rn_take : ∀ (l : List Rn) (i : Nat), (l.flatMap rnC).take (i * 2) = (l.take i).flatMap rnC
  | l, 0 => by rw [Nat.zero_mul]; rfl
  | [], i + 1 => by simp
  | e :: l, i + 1 => by
    rw [List.take_succ_cons, List.flatMap_cons, List.flatMap_cons, show (i + 1) * 2 = (rnC e).length + i * 2 by show _ = 2 + i * 2; omega, List.take_length_add_append, rn_take l i]
theorem rn_get {T : List Rn} {i : Nat} (hi : i < T.length) : ((T.flatMap rnC).drop (i * 2)).take 2 = [D.int T[i].1, D.int T[i].2] := by
  rw [rn_drop, List.drop_eq_getElem_cons hi, List.flatMap_cons]; rfl
theorem rnorm_len (l : List Rn) : (Runs.rnorm l).length ≤ l.length := by
  have lb := addL_len l []
  show (Runs.addL [] l).length ≤ _
  simpa using lb
end Go.Proofs.YtlddgfkdicgbeaaGreatDoor
