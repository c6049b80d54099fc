/- The law AshCommons. -/
import Derived.Test.YtnfhgnbniajhoaaDoorMeets
import Derived.Test.YtnfhgnbniajhoaaDoorSane
namespace Go.Proofs.YtnfhgnbniajhoaaDoor
open Go Go.Em
set_option maxRecDepth 100000
def LI (l : List As) (k : Nat) (s : St) : Prop := ∃ (x : Env 64) (h : Heap) (i : Nat), s = ⟨x.l, h, []⟩ ∧ i + k = l.length ∧ i ≤ 20 ∧ x.v 0 = assD l ∧ x.v 8 = D.int i
def LQ (x : Ex) (s : St) : Prop := x = .exit 0 ∧ ∃ (x : Env 64) (h : Heap), s = ⟨x.l, h, []⟩
set_option maxHeartbeats 4000000 in
theorem law_round (l : List As) (hl : l.length ≤ 9223372036854775807) : ∀ n, 40 ≤ n → ∀ k s, LI l k s → Res (k3l0.ev ⟨pg, 64, none⟩ (rc pg n) s) (Rnd (LI l) LQ k) := by
  rintro n hn k s ⟨x, h, i, rfl, hik, hi20, v0, v8⟩
  simp only [assD] at v0
  have s9 : pg.sh 9 = false := rfl
  have s10 : pg.sh 10 = false := rfl
  have hw1 : IntKind.i64.wrap ((i : Int) + 1) = (i : Int) + 1 := wrap_i64 (by omega) (by omega)
  by_cases c1 : i + 1 < l.length
  · have c1' : (i : Int) + 1 < l.length := by omega
    have hi : i < l.length := by omega
    by_cases c2 : (i : Int) < 20
    · obtain ⟨a, ha⟩ : ∃ a, l[i] = a := ⟨l[i], rfl⟩
      obtain ⟨b, hb⟩ : ∃ b, l[i + 1] = b := ⟨l[i + 1], rfl⟩
      have m1 := @meets_run a b n (by omega)
      have m2 := @rmeets_run a b n (by omega)
      rw [com_ref] at m1
      simp only [asD] at m1 m2
      have e2 : (((i : Int) + 1).toNat) = i + 1 := by omega
      have e3 : (0 : Int) ≤ (i : Int) + 1 := by omega
      simp [k3l0, v0, v8, c1', c2, hi, c1, ha, hb, hw1, e2, e3, asD, D.cells, D.one, dcore_f, s9, s10, m1, m2]
      exact ⟨k - 1, by omega, _, _, i + 1, rfl, by omega, by omega, by simp [v0, assD], by simp⟩
    · simp [k3l0, v0, v8, c1', c2, hw1]
      exact ⟨rfl, _, _, rfl⟩
  · have c1' : ¬ (i : Int) + 1 < l.length := by omega
    simp [k3l0, v0, v8, c1', hw1]
    exact ⟨rfl, _, _, rfl⟩
theorem cellsEq_self (g : G3) : cellsEq [.int, .int, .int, .int, .int, .int] (g3C g) (g3C g) = some true := by simp [g3C]
set_option maxHeartbeats 4000000 in
theorem commons_of (l : List As) (hl : l.length ≤ 9223372036854775807) {n : Nat} (hn : l.length + 200 ≤ n) (hs : ∀ m, 120 ≤ m → ∀ h, call pg (rc pg m) 6 [] h = some (.ret (D.bool true), h)) : pureCall (rc pg n) 3 [assD l] = some (.ret (D.bool true)) := by
  obtain ⟨m, rfl, e⟩ := body (pg := pg) (f := 3) (args := [assD l]) (show 0 < n by omega) rfl rfl
  rw [e]
  have hc : D.canonL [assD l] = true := by simp [assD, as_canon]
  have c7 := fun h => call_of (h := h) (pg := pg) (f := 7) rfl hc (@common_run l hl m (by omega))
  have c8 := fun h => call_of (h := h) (pg := pg) (f := 8) rfl hc (@rcommon_run l hl m (by omega))
  rw [com_ref] at c7
  obtain ⟨⟨g, b⟩, hg⟩ : ∃ g, refF l = g := ⟨_, rfl⟩
  rw [hg] at c7 c8
  simp only [comD, g3C, assD] at c7 c8
  have h6 := hs m (by omega)
  simp [k3, Env.v_ini, assD, h6, c7, c8, D.cells, D.one, ev_loop]
  refine Res.endsAfter (lp_rule 40 (LI l) LQ (law_round l hl) l.length m _ (by omega)
    ⟨_, _, 0, rfl, by omega, by omega, by simp [Env.v_ini, assD], by simp⟩) ?_
  rintro x s ⟨rfl, x, h, rfl⟩
  simp
theorem commons_law (l : List As) (hl : l.length ≤ 9223372036854775807) {n : Nat} (hn : l.length + 200 ≤ n) : pureCall (rc pg n) 3 [assD l] = some (.ret (D.bool true)) :=
  commons_of l hl hn fun m hm h => sane_call hm h
end Go.Proofs.YtnfhgnbniajhoaaDoor
