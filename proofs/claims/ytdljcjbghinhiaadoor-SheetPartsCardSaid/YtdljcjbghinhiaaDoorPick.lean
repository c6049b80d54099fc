/- Numbers that choose; the years of a row. -/
import Derived.Test.YtdljcjbghinhiaaDoorRowsLaw
namespace Go.Proofs.YtdljcjbghinhiaaDoor
open Go Go.Em
set_option maxRecDepth 100000
/-- The choice among so many. -/
def pickF (l : List Int) (taken : Nat) (cand : Int) : Int := if l = [] ∨ cand < 1 then 0 else l.getD (taken % l.length) 0 % cand
theorem index_run (l : List Int) (taken : Nat) (cand : Int) (hc : cand ≤ 1000000) {n : Nat} (hn : 1 ≤ n) : pureCall (rc pg n) 35 [intsD l, D.int taken, D.int cand] = some (.ret (D.int (pickF l taken cand))) := by
  obtain ⟨m, rfl, e⟩ := body (pg := pg) (f := 35) (args := [intsD l, D.int taken, D.int cand]) (show 0 < n by omega) rfl rfl
  rw [e]
  by_cases h0 : l.length = 0
  · have hl : l = [] := List.eq_nil_of_length_eq_zero h0
    subst hl
    simp [k35, Env.v_ini, intsD, pickF]
  · have hl : l ≠ [] := fun h => h0 (by rw [h]; rfl)
    have h0' : ((l.length : Int) == 0) = false := by simp; exact hl
    have h0n : (l.length : Int) ≠ 0 := by omega
    by_cases h1 : cand < 1
    · simp [k35, Env.v_ini, intsD, pickF, h0', h1]
    · obtain ⟨j, hj⟩ : ∃ j, j = taken % l.length := ⟨_, rfl⟩
      have hlt : j < l.length := by rw [hj]; exact Nat.mod_lt _ (by omega)
      have ht : (taken : Int).tmod (l.length : Int) = (j : Int) := by rw [hj, Int.tmod_eq_emod_of_nonneg (by omega)]; omega
      obtain ⟨p, hp⟩ : ∃ p, l[j] = p := ⟨_, rfl⟩
      have hcn : cand ≠ 0 := by omega
      have hg : l.getD (taken % l.length) 0 = p := by rw [← hj, List.getD_eq_getElem?_getD, List.getElem?_eq_getElem hlt, hp]; rfl
      have hg' : l[taken % l.length]?.getD 0 = p := by rw [← List.getD_eq_getElem?_getD]; exact hg
      have hm1 := Int.emod_nonneg p hcn
      have hm2 := Int.emod_lt_of_pos p (show 0 < cand by omega)
      by_cases h2 : p.tmod cand < 0
      · have hr : IntKind.i64.wrap (p.tmod cand + cand) = p % cand := by
          have := Int.tmod_eq_emod (a := p) (b := cand)
          have hna : (cand.natAbs : Int) = cand := by omega
          rw [this] at h2 ⊢
          split at h2
          · omega
          · rename_i h3; rw [if_neg h3, hna, wrap_i64 (by omega) (by omega)]; omega
        simp [k35, Env.v_ini, intsD, pickF, h0', h1, hl, bin_rem, ht, hlt, hp, hcn, D.cells, h2, hr, hg']
      · have hr : p.tmod cand = p % cand := by
          have := Int.tmod_eq_emod (a := p) (b := cand)
          have hna : (cand.natAbs : Int) = cand := by omega
          rw [this] at h2 ⊢
          split
          · omega
          · rename_i h3; rw [if_neg h3] at h2; omega
        have h2' : ¬ p % cand < 0 := by omega
        simp [k35, Env.v_ini, intsD, pickF, h0', h1, hl, bin_rem, ht, hlt, hp, hcn, D.cells, hr, hg', h2']
theorem zeros_one (v : Value) : ∀ n, zerosD [v] 1 n = List.replicate n (.val v) := by
  intro n
  unfold zerosD
  apply List.ext_getElem
  · simp
  · intro i h1 h2
    simp
    have : i % 1 = 0 := Nat.mod_one i
    simp [this]
/-- A sum, as it stands behind so many numbers. -/
def UI (l : List Int) (k : Nat) (s : St) : Prop := ∃ (x : Env 17) (h : Heap) (i : Nat), s = ⟨x.l, h, []⟩ ∧ i + k = l.length ∧ x.v 4 = intsD l ∧ x.v 5 = D.int l.length ∧ x.v 6 = D.int i ∧ x.v 2 = D.int (l.take i).sum
end Go.Proofs.YtdljcjbghinhiaaDoor
