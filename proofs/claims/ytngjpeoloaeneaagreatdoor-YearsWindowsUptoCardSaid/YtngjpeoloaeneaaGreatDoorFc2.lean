/- Fractions: Make, Rate and Cmp, by the program and by the document. -/
import Derived.Test.YtngjpeoloaeneaaGreatDoorFc1
namespace Go.Proofs.YtngjpeoloaeneaaGreatDoor
open Go Go.Em
set_option maxRecDepth 100000
def sgF (n d : Int) : Int := if d < 0 then -n else n
def mkN (n d : Int) : Int := sgF (n.tdiv (gcF n d)) d
def mkQ (n d : Int) : Int := sgF (d.tdiv (gcF n d)) d
def mkO (n d : Int) : Bool := inR n (-1000000000) 1000000000 && inR d (-1000000000) 1000000000 && (d != 0)
def frD (n d : Int) : D := .agg [D.int n, D.int d]
def mkP (n d : Int) : D := if mkO n d = true then frD (mkN n d) (mkQ n d) else frD 0 0
def mkR (n d : Int) : D := .tup [mkP n d, D.int (if mkO n d = true then 0 else 1)]
theorem gc_pos {n d : Int} (hd : d ≠ 0) : 1 ≤ gcF n d := Nat.gcd_pos_of_pos_right _ (by omega)
theorem gc_le {n d : Int} (hd : d ≠ 0) : gcF n d ≤ d.natAbs := Nat.gcd_le_right _ (by omega)
theorem tdiv_sm {a : Int} (b : Int) (h : Sm a) : Sm (a.tdiv b) := by
  have h1 : (a.tdiv b).natAbs ≤ a.natAbs := by rw [Int.natAbs_tdiv]; exact Nat.div_le_self _ _
  unfold Sm at *
  omega
theorem inR_sm {a : Int} (h : inR a (-1000000000) 1000000000 = true) : Sm a := by unfold inR at h; simpa [Sm] using h
set_option maxHeartbeats 4000000 in
theorem make_run (n d : Int) {f : Nat} (hf : 1000000200 ≤ f) : pureCall (rc pg f) 26 [D.int n, D.int d] = some (.ret (mkR n d)) := by
  obtain ⟨m, rfl, e⟩ := body (pg := pg) (f := 26) (args := [D.int n, D.int d]) (show 0 < f by omega) rfl rfl
  rw [e]
  have hw := @within_run m (by omega)
  unfold mkR mkP mkO
  cases h1 : inR n (-1000000000) 1000000000 with
  | false => simp [k26, Env.v_ini, hw, h1, frD, D.cells, D.one]
  | true =>
    cases h2 : inR d (-1000000000) 1000000000 with
    | false => simp [k26, Env.v_ini, hw, h1, h2, frD, D.cells, D.one]
    | true =>
      by_cases h3 : d = 0
      · subst h3
        simp [k26, Env.v_ini, hw, h1, h2, frD, D.cells, D.one]
      · have sn := inR_sm h1
        have sd := inR_sm h2
        have h3' : (d == 0) = false := by simpa using h3
        have gp := gc_pos (n := n) h3
        have gl := gc_le (n := n) h3
        have cg := fun h => call_of (h := h) (pg := pg) (f := 54) rfl rfl (divisor_run n d sn sd (n := m) (by omega))
        obtain ⟨g, hg⟩ : ∃ g, g = gcF n d := ⟨_, rfl⟩
        rw [← hg] at gp gl cg
        have g0 : (g : Int) ≠ 0 := by omega
        have g1 : -(g : Int) ≠ 0 := by omega
        have wg : IntKind.i64.wrap (-(g : Int)) = -(g : Int) := wrap_i64 (by unfold Sm at sd; omega) (by omega)
        have q1 := tdiv_sm (g : Int) sn
        have q2 := tdiv_sm (g : Int) sd
        have w1 : IntKind.i64.wrap (n.tdiv g) = n.tdiv g := wrap_i64 (by unfold Sm at q1; omega) (by unfold Sm at q1; omega)
        have w2 : IntKind.i64.wrap (d.tdiv g) = d.tdiv g := wrap_i64 (by unfold Sm at q2; omega) (by unfold Sm at q2; omega)
        have w3 : IntKind.i64.wrap (-n.tdiv g) = -n.tdiv g := wrap_i64 (by unfold Sm at q1; omega) (by unfold Sm at q1; omega)
        have w4 : IntKind.i64.wrap (-d.tdiv g) = -d.tdiv g := wrap_i64 (by unfold Sm at q2; omega) (by unfold Sm at q2; omega)
        by_cases h4 : d < 0
        · simp [-beq_iff_eq, -beq_eq_false_iff_ne, k26, Env.v_ini, hw, h1, h2, h3', h3, h4, cg, wg, bin_quo g1, Int.tdiv_neg, w3, w4, frD, mkN, mkQ, sgF, ← hg, D.cells, D.one]
        · simp [-beq_iff_eq, -beq_eq_false_iff_ne, k26, Env.v_ini, hw, h1, h2, h3', h3, h4, cg, bin_quo g0, w1, w2, frD, mkN, mkQ, sgF, ← hg, D.cells, D.one]
end Go.Proofs.YtngjpeoloaeneaaGreatDoor
