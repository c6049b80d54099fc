/- Spread, by the program and by the document; the law of spreads. -/
import Derived.Test.YtlddgfkdicgbeaaGreatDoorRp
namespace Go.Proofs.YtlddgfkdicgbeaaGreatDoor
open Go Go.Em
set_option maxRecDepth 100000
theorem mix_end (T : List Rn) (a b : Int) : mixL T a b T.length = T.map (spr a b) := by unfold mixL; rw [List.take_length, List.drop_length, List.append_nil]
theorem mix_zero (T : List Rn) (a b : Int) : mixL T a b 0 = T := by unfold mixL; simp
set_option maxHeartbeats 8000000 in
theorem spread_run (l : List Rn) (hl : l.length ≤ 2000000) (a b : Int) {n : Nat} (hn1 : bigN + 100 ≤ n) : pureCall (rc pg n) 23 [rnsD l, D.int a, D.int b] = some (.ret (rnsD (sprF l a b))) := by
  have hb9 : 4000100 ≤ bigN := by decide
  obtain ⟨m, rfl, e⟩ := body (pg := pg) (f := 23) (args := [rnsD l, D.int a, D.int b]) (show 0 < n by omega) rfl rfl
  rw [e]
  unfold sprF
  by_cases h1 : a < -1000000000
  · rw [if_pos (.inl h1)]
    simp [k23, Env.v_ini, rnsD, h1]
  · by_cases h2 : b < a
    · rw [if_pos (.inr (.inl h2))]
      simp [k23, Env.v_ini, rnsD, h1, h2]
    · by_cases h3 : 1000000000 < b
      · rw [if_pos (.inr (.inr h3))]
        simp [k23, Env.v_ini, rnsD, h1, h2, h3]
      · rw [if_neg (by omega)]
        obtain ⟨H, hH⟩ : ∃ H, H = ((Heap.empty.bump 57).bump 57).bump 57 := ⟨_, rfl⟩
        obtain ⟨d, h', c, g1, g2, g3⟩ := norm_sh hl (.inl rfl : AR H (rnsD l) l) (by rw [hH]; exact ((Heap.Fr.empty.bump 57).bump 57).bump 57) (n := m) (by omega)
        have c10 := call_sh (pg := pg) (f := 10) rfl c
        have hT := rnorm_len l
        have hok := (Runs.rnorm_ok l).1.1
        obtain ⟨T, hTT⟩ : ∃ T, T = Runs.rnorm l := ⟨_, rfl⟩
        rw [← hTT] at g1 hT hok ⊢
        simp only [rnsD] at c10
        rcases g1 with ⟨hO0, rfl⟩ | ⟨kk, rfl, hg, hkk⟩
        · subst hO0
          simp [k23, Env.v_ini, rnsD, ev_loop, h1, h2, h3, ← hH, c10]
          refine Res.endsAfter (lp_rule 1 (fun k s => ∃ (x : Env 57) (h : Heap), s = ⟨x.l, h, []⟩ ∧ x.v 7 = .val (.slice none 0 0) ∧ x.v 24 = D.int 0 ∧ x.v 25 = D.int 0 ∧ h.Fr) (fun x s => x = .exit 0 ∧ ∃ (x : Env 57) (h : Heap), s = ⟨x.l, h, []⟩ ∧ x.v 7 = .val (.slice none 0 0) ∧ h.Fr) ?_ 0 m _ (by omega) ⟨_, _, rfl, by simp, by simp, by simp, by first | exact g2 | exact g2.bump _⟩) ?_
          · rintro n _ k s ⟨x, h, rfl, v7, v24, v25, hf⟩
            simp [k23l0, v24, v25]
            exact ⟨_, _, ⟨rfl, rfl⟩, by simp [v7], hf.bump _⟩
          · rintro x s ⟨rfl, y, h, rfl, w7, hf⟩
            obtain ⟨H2, hH2⟩ : ∃ H2, H2 = h.bump 57 := ⟨_, rfl⟩
            obtain ⟨d2, h2', cc, k1, k2, k3⟩ := norm_sh (a := []) (by simp) (nil_AR H2) (by rw [hH2]; exact hf.bump 57) (n := m) (by omega)
            have c11 := call_sh (pg := pg) (f := 10) rfl cc
            obtain ⟨ks, hz⟩ := k1.frz4
            simp only [rnsD] at hz
            simp [w7, ← hH2, c11]
            rw [hz]
            exact ⟨_, rfl⟩
        · simp [k23, Env.v_ini, rnsD, ev_loop, h1, h2, h3, ← hH, c10]
          refine Res.endsAfter (lp_rule 1 (SpI T a b kk) _ (sp_round T a b kk (by omega) hok (by omega) (by omega) (by omega)) T.length m _ (by omega) ⟨_, _, 0, rfl, by omega, by simp [Env.v_ini], by simp [Env.v_ini], by simp, by simp, by simp, by simp, by rw [mix_zero]; first | exact hg | simpa using hg, by first | exact hkk | (simp; omega), by first | exact g2 | exact g2.bump _⟩) ?_
          rintro x s ⟨rfl, y, h, i, rfl, hi, w1, w2, w7, w23, w24, w25, hg', hkk', hf⟩
          obtain rfl : i = T.length := by omega
          rw [mix_end] at hg'
          obtain ⟨H2, hH2⟩ : ∃ H2, H2 = h.bump 57 := ⟨_, rfl⟩
          obtain ⟨d2, h2', cc, k1, k2, k3⟩ := norm_sh (a := T.map (spr a b)) (by simp; omega) (.inr (.inr ⟨kk, by simp, by rw [hH2]; simpa using hg', by rw [hH2]; simp; omega⟩) : AR H2 (.slr kk 0 T.length 2 none) (T.map (spr a b))) (by rw [hH2]; exact hf.bump 57) (n := m) (by omega)
          have c11 := call_sh (pg := pg) (f := 10) rfl cc
          obtain ⟨ks, hz⟩ := k1.frz4
          simp only [rnsD] at hz
          simp [w7, ← hH2, c11]
          rw [hz]
          exact ⟨_, rfl⟩
end Go.Proofs.YtlddgfkdicgbeaaGreatDoor
/- The law of spreads. -/
namespace Go.Proofs.YtlddgfkdicgbeaaGreatDoor
open Go Go.Em
set_option maxRecDepth 100000
@[simp] theorem atId_sl (b : Bool) (es : List D) : atId (.sl b es) = none := by unfold atId; rfl
theorem sprF_nf (l : List Rn) (a b : Int) : Runs.NF (sprF l a b) := by
  unfold sprF
  split
  · exact Runs.nf_nil
  · exact (Runs.rnorm_ok _).1
end Go.Proofs.YtlddgfkdicgbeaaGreatDoor
