/- The values that the grains of ashes have in common, by the program. -/
import Derived.Test.YtnfhgnbniajhoaaDoorCommon2
namespace Go.Proofs.YtnfhgnbniajhoaaDoor
open Go Go.Em
set_option maxRecDepth 100000
/-- What all ashes have in common. -/
def comF : List As → G3 × Bool
  | [] => (zero3, false)
  | a :: l => match comL a.g (a :: l) with
    | some g => (g, true)
    | none => (zero3, false)
def comD (r : G3 × Bool) : D := .tup [.agg (g3C r.1), D.bool r.2]
set_option maxHeartbeats 4000000 in
theorem common_run (l : List As) (hl : l.length ≤ 9223372036854775807) {n : Nat} (hn : l.length + 20 ≤ n) : pureCall (rc pg n) 7 [assD l] = some (.ret (comD (comF l))) := by
  obtain ⟨m, rfl, e⟩ := body (pg := pg) (f := 7) (args := [assD l]) (show 0 < n by omega) rfl rfl
  rw [e]
  cases l with
  | nil => simp [k7, Env.v_ini, assD, D.cells, D.one, comF, comD, g3C, zero3]
  | cons a l =>
    have h0 : ((l.length : Int) + 1 == 0) = false := by simp; omega
    simp [k7, Env.v_ini, assD, asD, D.cells, D.one, h0, ev_loop]
    refine Res.endsAfter (P := OQ 2 94 a.g (a :: l)) (lp_rule 10 (OI 2 94 a.g (a :: l)) (OQ 2 94 a.g (a :: l)) (out_round 2 94 a.g (a :: l) hl) (a :: l).length m _ (by omega)
      ⟨_, _, 0, a.g, rfl, by omega, by simp [Env.v_ini, assD, asD], by simp, by simp, by simp, by simp, by simp [g3C, zero3], by simp [g3C, As.g], rfl, by simp, by simp, by omega, ?_⟩) ?_
    · repeat' first | exact Heap.Fr.empty | apply Heap.Fr.bump | apply Heap.Fr.set
      all_goals (simp <;> omega)
    rintro x s (⟨rfl, x, h, i, g, rfl, hi, v17, v18, v19, v2, v4, hp, hq, ho, _⟩ | ⟨rfl, ho, x, h, rfl, v2, v3, hp⟩)
    · obtain rfl : i = (a :: l).length := by omega
      rw [List.drop_length] at ho
      have e1 : comF (a :: l) = (g, true) := by
        show (match comL a.g (a :: l) with | some g => (g, true) | none => (zero3, false)) = _
        rw [ho]; rfl
      simp only [g3C] at hq hp
      simp [v4, v2, hq, hp, e1, comD, g3C, D.cells, D.one]
    · have e1 : comF (a :: l) = (zero3, false) := by
        show (match comL a.g (a :: l) with | some g => (g, true) | none => (zero3, false)) = _
        rw [ho]
      simp [v2, v3, hp, e1, comD, g3C]
end Go.Proofs.YtnfhgnbniajhoaaDoor
