/- Slices of structs whose fields are one cell each: as the evaluator sees them, with a bound on how many there are. -/
import Derived.Test.YtlddgfkdicgbeaaGreatDoorEmW
namespace Go.Em
open Go Go.RowKit Go.ChangeShapes Go.WideShapes Go.Deep
theorem mapM_all {α : Type} {f : Nat → Option α} : ∀ {L : List Nat} {cs : List α}, L.mapM f = some cs → cs.length = L.length ∧ ∀ (i k : Nat) (v : α), L[i]? = some k → cs[i]? = some v → f k = some v
  | [], cs, h => by simp at h; subst h; simp
  | k :: L, cs, h => by
    rw [List.mapM_cons] at h
    simp only [Option.bind_eq_bind, Option.bind_eq_some_iff, Option.pure_def, Option.some.injEq] at h
    obtain ⟨v, hv, cs', h1, rfl⟩ := h
    obtain ⟨i1, i2⟩ := mapM_all h1
    refine ⟨by simp [i1], fun i k' v' a b => ?_⟩
    cases i with
    | zero => simp at a b; subst a b; exact hv
    | succ i => simp at a b; exact i2 i k' v' a b
theorem flat_get {α : Type} {n : Nat} (c : α → List Value) (hc : ∀ a, (c a).length = n) : ∀ (l : List α) (j : Nat) (v : Value), (l.flatMap c)[j]? = some v → ∃ i p k, l[i]? = some p ∧ k < n ∧ j = i * n + k ∧ (c p)[k]? = some v
  | [], _, _, h => by simp at h
  | p :: l, j, v, h => by
    rw [List.flatMap_cons] at h
    by_cases hj : j < n
    · rw [List.getElem?_append_left (by rw [hc]; exact hj)] at h
      exact ⟨0, p, j, rfl, hj, by omega, h⟩
    · rw [List.getElem?_append_right (by rw [hc]; omega), hc] at h
      obtain ⟨i, q, k, h1, h2, h3, h4⟩ := flat_get c hc l (j - n) v h
      exact ⟨i + 1, q, k, h1, h2, by rw [Nat.succ_mul]; omega, h4⟩
theorem flat_vals {K : Ctx} : ∀ l : List Value, l.all (·.oneCell') = true → DenL K l (l.map .val)
  | [], _ => .nil
  | v :: l, h => by
    simp only [List.all_cons, Bool.and_eq_true] at h
    exact .cons _ _ _ _ (.val _ h.1) (flat_vals l h.2)
section
variable {H : Type} {enc : TypeId × Value → H} {P : Program} {w : World} {base : Nat} {spare : Nat → Bool} {held : Bool} {r : Reach} {b0 : Nat}
theorem flat_den {α : Type} {z t : TypeId} {n fuel : Nat} {v : Value} {d : DataW H} {ps : List MemPlace} (c : α → List Value) (hc : ∀ a, (c a).length = n) (h1 : ∀ a, (c a).all (·.oneCell') = true) (a0 : α)
    (hz : P.underlying z = some (.slice t)) (hT : P.cellsOf t = n) (hr : ∀ {fuel : Nat} {cs : List Value} {x : DataW H × List MemPlace}, DataW.trod enc P w base spare held fuel t cs = some x → ∃ a, cs = c a)
    (hok : Cell.okWide P w r b0 z v) (h : DataW.trod enc P w base spare held fuel z [v] = some (d, ps)) :
    ∃ l : List α, l.length ≤ 9223372036854775807 ∧ ((d.weights P z).all (· ≤ reachBytes) = true → l.length * P.bytesOf t ≤ reachBytes) ∧ Den (ctxOf w) v (.sl false (l.map fun a => .agg ((c a).map .val))) := by
  rcases open_slice hz h with ⟨hcs, _⟩ | ⟨a, len, cap, m, q, Dd, Pl, hcs, _, hlc, hcm, hm, hx, hel⟩
  · cases hcs
    exact ⟨[], by simp, by simp, .slnil false⟩
  · cases hcs
    have hsp := spot_of hz hok
    obtain ⟨b, o, s⟩ := a
    simp only at hsp
    subst hsp
    have hlm : len ≤ m := by rw [hm]; split <;> omega
    have key : ∀ i, ∃ p : α, i < len → ∀ k v, (c p)[k]? = some v → w.cell? ⟨b, o + (i * n + k), none⟩ = some v := by
      intro i
      by_cases hil : i < len
      · obtain ⟨cs', k1, k2⟩ := hel i (by omega)
        obtain ⟨p, rfl⟩ := hr k2
        refine ⟨p, fun _ k v hk => ?_⟩
        rw [hT] at k1
        unfold World.cells? at k1
        split at k1
        · obtain ⟨_, k3⟩ := mapM_all k1
          have hkn : k < n := by
            have := (List.getElem?_eq_some_iff.1 hk).1
            rw [hc] at this; exact this
          have := k3 k k v (List.getElem?_range hkn) hk
          rw [addr_add, addr_add] at this
          rw [← Nat.add_assoc]; exact this
        · cases k1
      · exact ⟨a0, fun h => absurd h hil⟩
    obtain ⟨f, hf⟩ := Classical.axiomOfChoice key
    obtain ⟨rfl, _⟩ := Prod.mk.inj hx
    refine ⟨(List.range len).map f, by have := hcm; simp [maxLen] at this ⊢; omega, fun hw => ?_, ?_⟩
    · simp only [DataW.weights, hz, List.all_cons, Bool.and_eq_true, decide_eq_true_eq, List.length_map, List.length_range] at hw ⊢
      exact Nat.le_trans (Nat.mul_le_mul_right _ (by omega)) hw.1
    have hlen : (((List.range len).map f).map fun a => D.agg ((c a).map .val)).length = len := by simp
    have hv : Value.slice (some ⟨b, o, none⟩) len cap = .slice (some ⟨b, o, none⟩) (((List.range len).map f).map fun a => D.agg ((c a).map .val)).length cap := by rw [hlen]
    rw [hv]
    refine .sl b o cap false n _ (((List.range len).map f).flatMap c) (fun h => by cases h) (by rw [hlen]; exact hlc) hcm (fun e hm => ?_) (fun j v hj => ?_) ?_ ?_
    · obtain ⟨p, _, rfl⟩ := List.mem_map.1 hm
      simp [D.cells, hc]
    · obtain ⟨i, p, k, k1, k2, k3, k4⟩ := flat_get c hc _ j v hj
      rw [List.getElem?_map] at k1
      simp only [Option.map_eq_some_iff] at k1
      obtain ⟨i', k5, rfl⟩ := k1
      have hi' : i < len := by
        have := (List.getElem?_eq_some_iff.1 k5).1
        simpa using this
      have : i' = i := by
        rw [List.getElem?_range hi'] at k5
        exact (Option.some.inj k5).symm
      subst this
      subst k3
      exact ctxOf_cell (hf i' hi' k v k4)
    · rw [List.all_eq_true]
      intro v hv
      obtain ⟨p, _, hp⟩ := List.mem_flatMap.1 hv
      exact List.all_eq_true.1 (h1 p) v hp
    · have : ∀ L : List α, DenL (ctxOf w) (L.flatMap c) ((L.map fun a => D.agg ((c a).map .val)).flatMap D.cells) := by
        intro L
        induction L with
        | nil => exact .nil
        | cons p L ih =>
          rw [List.map_cons, List.flatMap_cons, List.flatMap_cons]
          have app : ∀ {a : List Value} {b : List D} {x : List Value} {y : List D}, DenL (ctxOf w) a b → DenL (ctxOf w) x y → DenL (ctxOf w) (a ++ x) (b ++ y) := by
            intro a b x y ha hx
            induction a generalizing b with
            | nil => cases ha; exact hx
            | cons u a ih => cases ha with | cons _ d _ ds h1 h2 => exact .cons _ _ _ _ h1 (ih h2)
          exact app (flat_vals _ (h1 p)) ih
      exact this _
theorem ints2_read {t ti : TypeId} {f0 f1 : Field} {fuel : Nat} {cs : List Value} {x : DataW H × List MemPlace} (ht : P.underlying t = some (.struct #[f0, f1])) (hC : P.cellsOf t = 2) (h0 : f0.type = ti ∧ f0.offset = 0) (h1 : f1.type = ti ∧ f1.offset = 1)
    (hi : P.underlying ti = some (.int .i64)) (c1 : P.cellsOf ti = 1) (h : DataW.trod enc P w base spare held fuel t cs = some x) : ∃ a b, cs = [.int .i64 a, .int .i64 b] := by
  obtain ⟨xs, n, rfl, rfl, hl, hn, hf⟩ := DataW.trod_struct ht h
  have e0 := hf 0 f0 rfl
  have e1 := hf 1 f1 rfl
  rw [h0.1, h0.2, c1] at e0
  rw [h1.1, h1.2, c1] at e1
  rw [hC] at hl
  match cs, hl with
  | [u0, u1], _ =>
    match xs, hn with
    | [x0, x1], _ =>
      obtain ⟨a, j0, _, _⟩ := DataW.trod_int hi (show DataW.trod enc P w base spare held n ti _ = some x0 from e0)
      obtain ⟨b, j1, _, _⟩ := DataW.trod_int hi (show DataW.trod enc P w base spare held n ti _ = some x1 from e1)
      simp at j0 j1
      subst j0 j1
      exact ⟨a, b, rfl⟩
end
end Go.Em
