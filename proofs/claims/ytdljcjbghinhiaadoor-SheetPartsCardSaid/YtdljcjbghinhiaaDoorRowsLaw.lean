/- The law on rows, marks and places. -/
import Derived.Test.YtdljcjbghinhiaaDoorMarks
namespace Go.Proofs.YtdljcjbghinhiaaDoor
open Go Go.Em
set_option maxRecDepth 100000
def intsD (l : List Int) : D := .sl false (l.map D.int)
def SI (l : List Int) (k : Nat) (s : St) : Prop := ∃ (x : Env 31) (h : Heap) (i : Nat), s = ⟨x.l, h, []⟩ ∧ i + k = l.length ∧ x.v 0 = intsD l ∧ x.v 1 = intsD l ∧ x.v 5 = D.bool true ∧ x.v 6 = D.int i
theorem same_round (l : List Int) (hl : l.length ≤ 1000000) : ∀ n, 0 ≤ n → ∀ k s, SI l k s → Res (k24l0.ev ⟨pg, 31, none⟩ (rc pg n) s) (Rnd (SI l) (fun x s => x = .exit 0 ∧ SI l 0 s) k) := by
  rintro n hn k s ⟨x, h, i, rfl, hik, v0, v1, v5, v6⟩
  simp only [intsD] at v0 v1
  by_cases hlt : i < l.length
  · obtain ⟨r, hr⟩ : ∃ r, l[i] = r := ⟨l[i], rfl⟩
    have hw1 : IntKind.i64.wrap ((i : Int) + 1) = (i : Int) + 1 := wrap_i64 (by omega) (by omega)
    simp [k24l0, v0, v1, v5, v6, hlt, hr, D.cells, hw1]
    exact ⟨k - 1, by omega, _, _, i + 1, rfl, by omega, by simp [v0, intsD], by simp [v1, intsD], by simp, by simp⟩
  · simp [k24l0, v0, v6, hlt]
    exact ⟨_, _, i, rfl, by omega, by simp [v0, intsD], by simp [v1, intsD], by simp [v5], by simp [v6]⟩
theorem same_run (l : List Int) (hl : l.length ≤ 1000000) {n : Nat} (hn : l.length + 5 ≤ n) : pureCall (rc pg n) 24 [intsD l, intsD l] = some (.ret (D.bool true)) := by
  obtain ⟨m, rfl, e⟩ := body (pg := pg) (f := 24) (args := [intsD l, intsD l]) (show 0 < n by omega) rfl rfl
  rw [e]
  simp [k24, Env.v_ini, intsD, ev_loop]
  refine Res.endsAfter (lp_rule 0 (SI l) _ (same_round l hl) l.length m _ (by omega) ⟨_, _, 0, rfl, by omega, by simp [Env.v_ini, intsD], by simp [Env.v_ini, intsD], by simp, by simp⟩) ?_
  rintro x s ⟨rfl, x, h, i, rfl, hi, v0, v1, v5, v6⟩
  simp [v5]
theorem shMarks_len (i r c : Int) (l : List Rw) : (shMarks i r c l).length ≤ 400 := by
  unfold shMarks
  split
  · rename_i h0
    have := marks_len c l
    have hl : l.length ≤ 400 := by
      apply len_of_ok
      unfold chkF at h0
      split at h0
      · omega
      · split at h0
        · rename_i h1; exact absurd h0 h1
        · rename_i h1; simpa using h1
    omega
  · simp
end Go.Proofs.YtdljcjbghinhiaaDoor
