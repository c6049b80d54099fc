/- Fractions: the greatest number that divides both, by the program and by the document. -/
import Derived.Test.YtngjpeoloaeneaaGreatDoorPg
import Derived.Test.YtngjpeoloaeneaaGreatDoorEmBits
namespace Go.Proofs.YtngjpeoloaeneaaGreatDoor
open Go Go.Em
set_option maxRecDepth 100000
def inR (n lo hi : Int) : Bool := decide (lo ≤ n ∧ n ≤ hi)
theorem inR_eq {n lo hi : Int} : inR n lo hi = (decide (lo ≤ n) && decide (n ≤ hi)) := by unfold inR; by_cases h1 : lo ≤ n <;> by_cases h2 : n ≤ hi <;> simp [h1, h2]
theorem within_run {n : Nat} (hn : 1 ≤ n) (a lo hi : Int) (h : Heap) : call pg (rc pg n) 53 [D.int a, D.int lo, D.int hi] h = some (.ret (D.bool (inR a lo hi)), h) := by
  refine call_of rfl rfl ?_
  obtain ⟨m, rfl, e⟩ := body (pg := pg) (f := 53) (args := [D.int a, D.int lo, D.int hi]) hn rfl rfl
  rw [e, inR_eq]
  by_cases h1 : lo ≤ a <;> simp [k53, Env.v_ini, h1]
def gcF (a b : Int) : Nat := Nat.gcd a.natAbs b.natAbs
theorem gcF_step (a b : Int) : gcF b (a.tmod b) = gcF a b := by
  unfold gcF
  rw [Int.natAbs_tmod, Nat.gcd_comm, ← Nat.gcd_rec, Nat.gcd_comm]
def Sm (a : Int) : Prop := -1000000000 ≤ a ∧ a ≤ 1000000000
theorem tmod_lt {a b : Int} (hb : b ≠ 0) : (a.tmod b).natAbs < b.natAbs := by
  rw [Int.natAbs_tmod]; exact Nat.mod_lt _ (by omega)
def GdI (g : Nat) (k : Nat) (s : St) : Prop := ∃ (x : Env 15) (h : Heap) (a b : Int), s = ⟨x.l, h, []⟩ ∧ x.v 0 = D.int a ∧ x.v 1 = D.int b ∧ Sm a ∧ Sm b ∧ gcF a b = g ∧ b.natAbs ≤ k
def GdQ (g : Nat) (x : Ex) (s : St) : Prop := x = .exit 0 ∧ ∃ (x : Env 15) (h : Heap) (a : Int), s = ⟨x.l, h, []⟩ ∧ x.v 0 = D.int a ∧ Sm a ∧ a.natAbs = g
theorem gd_round (g : Nat) : ∀ n, 1 ≤ n → ∀ k s, GdI g k s → Res (k54l0.ev ⟨pg, 15, none⟩ (rc pg n) s) (Rnd (GdI g) (GdQ g) k) := by
  rintro n hn k s ⟨x, h, a, b, rfl, v0, v1, ha, hb, hg, hk⟩
  by_cases h0 : b = 0
  · subst h0
    simp [k54l0, v1]
    exact ⟨rfl, _, _, a, rfl, by simp [v0], ha, by rw [← hg]; simp [gcF]⟩
  · have h0' : (b != 0) = true := by simpa using h0
    have hlt := tmod_lt (a := a) h0
    simp [-bne_iff_ne, k54l0, v0, v1, h0', bin_rem h0]
    exact ⟨k - 1, by omega, _, _, b, a.tmod b, rfl, by simp, by simp, hb, by unfold Sm at *; omega, by rw [gcF_step]; exact hg, by omega⟩
theorem divisor_run (a b : Int) (ha : Sm a) (hb : Sm b) {n : Nat} (hn : 1000000100 ≤ n) : pureCall (rc pg n) 54 [D.int a, D.int b] = some (.ret (D.int (gcF a b))) := by
  obtain ⟨m, rfl, e⟩ := body (pg := pg) (f := 54) (args := [D.int a, D.int b]) (show 0 < n by omega) rfl rfl
  rw [e]
  have hbn : b.natAbs ≤ 1000000000 := by unfold Sm at hb; omega
  simp [k54, ev_loop]
  refine Res.endsAfter (lp_rule 1 (GdI (gcF a b)) _ (gd_round (gcF a b)) b.natAbs m _ (by omega) ⟨_, _, a, b, rfl, by simp [Env.v_ini], by simp [Env.v_ini], ha, hb, rfl, Nat.le_refl _⟩) ?_
  rintro x s ⟨rfl, x, h, c, rfl, v0, hc, hg⟩
  have w1 : IntKind.i64.wrap (-c) = -c := wrap_i64 (by unfold Sm at hc; omega) (by unfold Sm at hc; omega)
  have hm : max c (-c) = ((gcF a b : Nat) : Int) := by rw [← hg]; omega
  simp [v0, w1, hm]
end Go.Proofs.YtngjpeoloaeneaaGreatDoor
