/- Whether sources are a least conflict, by the program: for those that are. -/
import Derived.Test.YtgbkdjlekfjkfaaGreatDoorCr1
namespace Go.Proofs.YtgbkdjlekfjkfaaGreatDoor
open Go Go.Em Go.Em.Net
set_option maxRecDepth 100000
def XIx (v : Int) (l : List Int) (k : Nat) (s : St) : Prop := ∃ (x : Env 19) (h : Heap) (i : Nat), s = ⟨x.l, h, []⟩ ∧ i + k = l.length ∧ x.v 0 = intsD l ∧ x.v 1 = D.int v ∧ x.v 7 = D.int l.length ∧ x.v 8 = D.int i ∧ ixP (· == v) 0 l = ixP (· == v) i (l.drop i)
def XQx (v : Int) (l : List Int) (x : Ex) (s : St) : Prop :=
  (x = .exit 0 ∧ ixP (· == v) 0 l = -1 ∧ ∃ (x : Env 19) (h : Heap), s = ⟨x.l, h, []⟩) ∨ (x = .ret ∧ ∃ (x : Env 19) (h : Heap), s = ⟨x.l, h, []⟩ ∧ x.v 4 = D.int (ixP (· == v) 0 l))
set_option maxHeartbeats 1000000 in
theorem indexx_round (v : Int) (l : List Int) (hl : l.length ≤ 200000) : ∀ n, 0 ≤ n → ∀ k s, XIx v l k s → Res (k123l0.ev ⟨pg, 19, none⟩ (rc pg n) s) (Rnd (XIx v l) (XQx v l) k) := by
  rintro n hn k s ⟨x, h, i, rfl, hik, v0, v1, v7, v8, ho⟩
  simp only [intsD] at v0
  by_cases hlt : i < l.length
  · obtain ⟨r, hr⟩ : ∃ r, l[i] = r := ⟨l[i], rfl⟩
    have hd : l.drop i = r :: l.drop (i + 1) := by rw [List.drop_eq_getElem_cons hlt, hr]
    rw [hd, ixP] at ho
    have hw1 : IntKind.i64.wrap ((i : Int) + 1) = (i : Int) + 1 := wrap_i64 (by omega) (by omega)
    by_cases he : (r == v) = true
    · rw [if_pos he] at ho
      have he2 : (v == r) = true := by simp at he ⊢; exact he.symm
      simp [-beq_iff_eq, k123l0, v0, v1, v7, v8, hlt, hr, D.cells, he2]
      exact .inr ⟨rfl, _, _, rfl, by simp [ho]⟩
    · rw [if_neg he] at ho
      have he2 : (v == r) = false := by simp at he ⊢; exact fun h => he h.symm
      simp [-beq_iff_eq, -beq_eq_false_iff_ne, k123l0, v0, v1, v7, v8, hlt, hr, D.cells, he2, hw1]
      exact ⟨k - 1, by omega, _, _, i + 1, rfl, by omega, by simp [v0, intsD], by simp [v1], by simp [v7], by simp, ho⟩
  · simp [k123l0, v7, v8, hlt]
    have hi : i = l.length := by omega
    rw [hi, List.drop_length] at ho
    exact .inl ⟨rfl, ho, _, _, rfl⟩
theorem indexx_run (l : List Int) (hl : l.length ≤ 200000) (v : Int) {n : Nat} (hn : l.length + 5 ≤ n) : pureCall (rc pg n) 123 [intsD l, D.int v] = some (.ret (D.int (ixP (· == v) 0 l))) := by
  obtain ⟨m, rfl, e⟩ := body (pg := pg) (f := 123) (args := [intsD l, D.int v]) (show 0 < n by omega) rfl rfl
  rw [e]
  simp [k123, Env.v_ini, intsD, ev_loop]
  refine Res.endsAfter (lp_rule 0 (XIx v l) _ (indexx_round v l hl) l.length m _ (by omega) ⟨_, _, 0, rfl, by omega, by simp [Env.v_ini, intsD], by simp [Env.v_ini], by simp, by simp, rfl⟩) ?_
  rintro x s (⟨rfl, hm, x, h, rfl⟩ | ⟨rfl, x, h, rfl, v4⟩)
  · simp [hm]
  · simp [v4]
theorem contains_run (l : List Int) (hl : l.length ≤ 200000) (v : Int) {n : Nat} (hn : l.length + 6 ≤ n) : pureCall (rc pg n) 68 [intsD l, D.int v] = some (.ret (D.bool (hasI l v))) := by
  obtain ⟨m, rfl, e⟩ := body (pg := pg) (f := 68) (args := [intsD l, D.int v]) (show 0 < n by omega) rfl rfl
  rw [e]
  have ci := fun h => call_of (h := h) (pg := pg) (f := 123) rfl (by simp [intsD, ints_canonL]) (@indexx_run l hl v m (by omega))
  have ha := ixP_any (· == v) l 0
  simp only [intsD] at ci
  obtain ⟨z, hz⟩ : ∃ z, z = ixP (· == v) 0 l := ⟨_, rfl⟩
  rw [← hz] at ci ha
  have hb : hasI l v = decide (z ≥ 0) := by unfold hasI; exact ha.symm
  rw [hb]
  simp [k68, Env.v_ini, intsD, ci]
theorem frz_slc {S Z : List Int} {kb d : Nat} {c0 : Option Nat} {H : Heap} (hg : H.get kb = some (.cells 3 ((S ++ Z).map D.int))) : frz H (d + 2) (.slr kb 0 S.length 1 c0) = some (intsD S, [kb]) := by
  rw [frz_slr, hg, frzS_cells]
  have hle : 0 + S.length * 1 ≤ ((S ++ Z).map D.int).length ∧ 0 < 1 := by simp
  have htk : (((S ++ Z).map D.int).drop 0).take (S.length * 1) = S.map D.int := by
    rw [List.drop_zero, Nat.mul_one, List.map_append]
    exact List.take_left' (by simp)
  rw [if_pos hle, htk, each_canon H d _ (ints_canonL S)]
  simp only [Option.map_some]
  rw [chunk_ints]; rfl
theorem contains_call {S Z : List Int} (hl : S.length ≤ 1000) {kb : Nat} {c0 : Option Nat} {H : Heap} (hg : H.get kb = some (.cells 3 ((S ++ Z).map D.int))) (v : Int) {n : Nat} (hn : 2000 ≤ n) : call pg (rc pg n) 68 [.slr kb 0 S.length 1 c0, D.int v] H = some (.ret (D.bool (hasI S v)), H) := by
  refine callfzg (bs := [intsD S, D.int v]) (ks := [kb]) rfl ?_ (contains_run S (by omega) v (by omega)) rfl
  rw [each_cons, show depth = 22 + 2 from rfl, frz_slc (d := 22) hg]
  rfl
def TrD (C0 : D) (b : Nat) : D := .fn (.func 72) [.agg [C0, .mapr b]] []
theorem updB_same (B : Int → Bool) (v : Int) (h : B v = true) : updB B v true = B := by
  funext w; unfold updB; split
  · rename_i e; rw [e, h]
  · rfl
end Go.Proofs.YtgbkdjlekfjkfaaGreatDoor
/- Whether sources are a least conflict, by the program: for those that are; the function. -/
namespace Go.Proofs.YtgbkdjlekfjkfaaGreatDoor
open Go Go.Em Go.Em.Net
set_option maxRecDepth 100000
theorem ok_by {c : Clm} (h : okF c = true) : 1 ≤ c.by_ := by
  unfold okF at h
  rw [Bool.and_eq_true, inR_eq (n := c.by_)] at h
  have := h.2
  simp at this
  omega
end Go.Proofs.YtgbkdjlekfjkfaaGreatDoor
