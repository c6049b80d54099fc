/- The place of a mark among marks that rise; lists of years. -/
import Derived.Test.YtmncdmpeeibgmaaGreatDoorTz
namespace Go.Proofs.YtmncdmpeeibgmaaGreatDoor
open Go Go.Em
set_option maxRecDepth 100000
structure Dt where
  m : Int
  y : Int
def sameF (a b : List Int) : Bool := decide (a = b)
def QI (a b : List Int) (k : Nat) (s : St) : Prop := ∃ (x : Env 26) (h : Heap) (i : Nat), s = ⟨x.l, h, []⟩ ∧ i + k = a.length ∧ x.v 0 = intsD a ∧ x.v 1 = intsD b ∧ x.v 12 = D.int a.length ∧ x.v 13 = D.int i ∧ a.take i = b.take i
def QQ (a b : List Int) (x : Ex) (s : St) : Prop := (x = .exit 0 ∧ QI a b 0 s) ∨ (x = .ret ∧ a ≠ b ∧ ∃ (x : Env 26) (h : Heap), s = ⟨x.l, h, []⟩ ∧ x.v 4 = D.bool false)
set_option maxHeartbeats 1000000 in
theorem same_round' (a b : List Int) (hab : a.length = b.length) (hl : b.length ≤ 4000) : ∀ n, 0 ≤ n → ∀ k s, QI a b k s → Res (k9l0.ev ⟨pg, 26, none⟩ (rc pg n) s) (Rnd (QI a b) (QQ a b) k) := by
  rintro n hn k s ⟨x, h, i, rfl, hik, v0, v1, v12, v13, ht⟩
  simp only [intsD] at v0 v1
  by_cases hi : i < a.length
  · have hib : i < b.length := by omega
    obtain ⟨c, hc⟩ : ∃ c, a[i] = c := ⟨_, rfl⟩
    obtain ⟨d, hd⟩ : ∃ d, b[i] = d := ⟨_, rfl⟩
    have w1 : IntKind.i64.wrap ((i : Int) + 1) = (i : Int) + 1 := wrap_i64 (by omega) (by omega)
    by_cases he : c = d
    · have he' : (c != d) = false := by simp [he]
      simp [k9l0, v0, v1, v12, v13, hi, hib, hc, hd, he', D.cells, w1]
      refine ⟨k - 1, by omega, _, _, i + 1, rfl, by omega, by simp [v0, intsD], by simp [v1, intsD], by simp [v12], by simp, ?_⟩
      rw [List.take_add_one, List.take_add_one, ht, List.getElem?_eq_getElem hi, List.getElem?_eq_getElem hib, hc, hd, he]
    · have he' : (c != d) = true := by simpa using he
      simp [k9l0, v0, v1, v12, v13, hi, hib, hc, hd, he', D.cells]
      exact .inr ⟨rfl, fun e => he (by subst e; rw [← hc, ← hd]), _, _, rfl, by simp⟩
  · simp [k9l0, v12, v13, hi]
    exact .inl ⟨rfl, _, _, i, rfl, by omega, by simp [v0, intsD], by simp [v1, intsD], by simp [v12], by simp [v13], ht⟩
theorem sameI_run (a b : List Int) (hl : b.length ≤ 4000) {n : Nat} (hn : b.length + 10 ≤ n) : pureCall (rc pg n) 9 [intsD a, intsD b] = some (.ret (D.bool (sameF a b))) := by
  obtain ⟨m, rfl, e⟩ := body (pg := pg) (f := 9) (args := [intsD a, intsD b]) (show 0 < n by omega) rfl rfl
  rw [e]
  by_cases h0 : a.length = b.length
  · have h0' : ((a.length : Int) != b.length) = false := by simp [h0]
    simp [-bne_eq_false_iff_eq, k9, Env.v_ini, intsD, h0', ev_loop]
    refine Res.endsAfter (lp_rule 0 (QI a b) _ (same_round' a b h0 hl) a.length m _ (by omega) ⟨_, _, 0, rfl, by omega, by simp [Env.v_ini, intsD], by simp [Env.v_ini, intsD], by simp, by simp, by simp⟩) ?_
    rintro x s (⟨rfl, x, h, i, rfl, hi, v0, v1, v12, v13, ht⟩ | ⟨rfl, hne, x, h, rfl, v4⟩)
    · have : a = b := by
        rw [List.take_of_length_le (show a.length ≤ i by omega), List.take_of_length_le (show b.length ≤ i by omega)] at ht
        exact ht
      simp [sameF, this]
    · simp [v4, sameF, hne]
  · have h0' : ((a.length : Int) != b.length) = true := by simp; omega
    have hne : a ≠ b := fun e => h0 (by rw [e])
    simp [k9, Env.v_ini, intsD, h0', sameF, hne]
end Go.Proofs.YtmncdmpeeibgmaaGreatDoor
/- Lists of years, by the document's own functions. -/
namespace Go.Proofs.YtmncdmpeeibgmaaGreatDoor
open Go Go.Em
set_option maxRecDepth 100000
end Go.Proofs.YtmncdmpeeibgmaaGreatDoor
/- Whether years are a chronology of claims: by the program and by the document. -/
namespace Go.Proofs.YtmncdmpeeibgmaaGreatDoor
open Go Go.Em
set_option maxRecDepth 100000
end Go.Proofs.YtmncdmpeeibgmaaGreatDoor
