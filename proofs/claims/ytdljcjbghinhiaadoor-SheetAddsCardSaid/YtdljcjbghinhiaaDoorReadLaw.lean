/- The law on readings. -/
import Derived.Test.YtdljcjbghinhiaaDoorRead4
namespace Go.Proofs.YtdljcjbghinhiaaDoor
open Go Go.Em
set_option maxRecDepth 100000
theorem readF_len (picks : List Int) : ∀ (l : List Rw) (t : Nat), okAll l = true → (readF picks t l).length ≤ 9000 * l.length
  | [], _, _ => by simp [readF]
  | r :: l, t, h => by
    simp only [okAll, List.all_cons, Bool.and_eq_true] at h
    have ih := readF_len picks l (tk t r) h.2
    obtain ⟨_, q2, _⟩ := nat_small r h.1
    have b4 := rowN_bound picks t r h.1
    have b3 := lo_bound r h.1
    have := yoF_len (natF r) ((natF r).lo + rowN picks t r) q2 (by omega)
    rw [readF, List.length_append, List.length_cons]
    omega
theorem readL_len (picks : List Int) (l : List Rw) : (readL picks l).length ≤ 3600000 := by
  unfold readL
  split
  · rename_i h
    have h1 := readF_len picks l 0 (ok_of h)
    have h2 := len_of_ok h
    omega
  · simp
theorem thickL_len (l : List Rw) : (thickL l).length ≤ 800 := by
  unfold thickL
  split
  · rename_i h
    have h1 := layers_len l
    have h2 := len_of_ok (lay_ok h).1
    omega
  · simp
theorem ints_canon (l : List Int) : D.canonL (l.map D.int) = true := canonL_map D.int (fun _ => rfl) l
theorem same_big (l : List Int) (hl : l.length ≤ 9000000) {n : Nat} (hn : l.length + 5 ≤ n) : pureCall (rc pg n) 24 [intsD l, intsD l] = some (.ret (D.bool true)) := by
  obtain ⟨m, rfl, e⟩ := body (pg := pg) (f := 24) (args := [intsD l, intsD l]) (show 0 < n by omega) rfl rfl
  rw [e]
  have round : ∀ n, 0 ≤ n → ∀ k s, SI l k s → Res (k24l0.ev ⟨pg, 31, none⟩ (rc pg n) s) (Rnd (SI l) (fun x s => x = .exit 0 ∧ SI l 0 s) k) := by
    rintro n hn k s ⟨x, h, i, rfl, hik, v0, v1, v5, v6⟩
    simp only [intsD] at v0 v1
    by_cases hlt : i < l.length
    · obtain ⟨r, hr⟩ : ∃ r, l[i] = r := ⟨l[i], rfl⟩
      have hw1 : IntKind.i64.wrap ((i : Int) + 1) = (i : Int) + 1 := wrap_i64 (by omega) (by omega)
      simp [k24l0, v0, v1, v5, v6, hlt, hr, D.cells, hw1]
      exact ⟨k - 1, by omega, _, _, i + 1, rfl, by omega, by simp [v0, intsD], by simp [v1, intsD], by simp, by simp⟩
    · simp [k24l0, v0, v6, hlt]
      exact ⟨_, _, i, rfl, by omega, by simp [v0, intsD], by simp [v1, intsD], by simp [v5], by simp [v6]⟩
  simp [k24, Env.v_ini, intsD, ev_loop]
  refine Res.endsAfter (lp_rule 0 (SI l) _ round l.length m _ (by omega) ⟨_, _, 0, rfl, by omega, by simp [Env.v_ini, intsD], by simp [Env.v_ini, intsD], by simp, by simp⟩) ?_
  rintro x s ⟨rfl, x, h, i, rfl, hi, v0, v1, v5, v6⟩
  simp [v5]
end Go.Proofs.YtdljcjbghinhiaaDoor
