/- A slice of ashes, as the evaluator sees it. -/
import Derived.Test.YtnfhgnbniajhoaaDoorPg
namespace Go.Proofs.YtnfhgnbniajhoaaDoor
open Go Go.Em Go.RowKit Go.ChangeShapes Go.WideShapes Go.Deep
set_option maxRecDepth 100000
section
variable {H : Type} {enc : TypeId × Value → H} {P : Program} {w : World} {base : Nat} {spare : Nat → Bool} {held : Bool} {r : Reach} {b0 : Nat}
theorem band_read {t ti : TypeId} {f0 f1 : Field} {fuel : Nat} {cs : List Value} {x : DataW H × List MemPlace} (ht : P.underlying t = some (.struct #[f0, f1])) (hC : P.cellsOf t = 2) (h0 : f0.type = ti ∧ f0.offset = 0) (h1 : f1.type = ti ∧ f1.offset = 1)
    (hi : P.underlying ti = some (.int .i64)) (c1 : P.cellsOf ti = 1) (h : DataW.trod enc P w base spare held fuel t cs = some x) : ∃ a b, cs = [.int .i64 a, .int .i64 b] := by
  obtain ⟨xs, n, rfl, rfl, hl, hn, hf⟩ := DataW.trod_struct ht h
  have e0 := hf 0 f0 rfl
  have e1 := hf 1 f1 rfl
  rw [h0.1, h0.2, c1] at e0
  rw [h1.1, h1.2, c1] at e1
  rw [hC] at hl
  match cs, hl with
  | [u0, u1], _ =>
    match xs, hn with
    | [x0, x1], _ =>
      obtain ⟨a, j0, _, _⟩ := DataW.trod_int hi (show DataW.trod enc P w base spare held n ti _ = some x0 from e0)
      obtain ⟨b, j1, _, _⟩ := DataW.trod_int hi (show DataW.trod enc P w base spare held n ti _ = some x1 from e1)
      simp at j0 j1
      subst j0 j1
      exact ⟨a, b, rfl⟩
theorem grain_read {t e ti : TypeId} {f0 f1 : Field} {fuel : Nat} {cs : List Value} {x : DataW H × List MemPlace} (ht : P.underlying t = some (.array 3 e)) (hC : P.cellsOf t = 6) (he : P.underlying e = some (.struct #[f0, f1])) (hE : P.cellsOf e = 2) (h0 : f0.type = ti ∧ f0.offset = 0) (h1 : f1.type = ti ∧ f1.offset = 1)
    (hi : P.underlying ti = some (.int .i64)) (c1 : P.cellsOf ti = 1) (h : DataW.trod enc P w base spare held fuel t cs = some x) : ∃ a b c d e f, cs = [.int .i64 a, .int .i64 b, .int .i64 c, .int .i64 d, .int .i64 e, .int .i64 f] := by
  obtain ⟨xs, n, rfl, rfl, hl, hn, hf⟩ := DataW.trod_array ht h
  have e0 := hf 0 (by omega)
  have e1 := hf 1 (by omega)
  have e2 := hf 2 (by omega)
  rw [hE] at e0 e1 e2
  rw [hC] at hl
  match cs, hl with
  | [u0, u1, u2, u3, u4, u5], _ =>
    match xs, hn with
    | [x0, x1, x2], _ =>
      obtain ⟨a, b, j0⟩ := band_read he hE h0 h1 hi c1 (show DataW.trod enc P w base spare held n e _ = some x0 from e0)
      obtain ⟨c, d, j1⟩ := band_read he hE h0 h1 hi c1 (show DataW.trod enc P w base spare held n e _ = some x1 from e1)
      obtain ⟨g, i, j2⟩ := band_read he hE h0 h1 hi c1 (show DataW.trod enc P w base spare held n e _ = some x2 from e2)
      simp at j0 j1 j2
      obtain ⟨rfl, rfl⟩ := j0
      obtain ⟨rfl, rfl⟩ := j1
      obtain ⟨rfl, rfl⟩ := j2
      exact ⟨_, _, _, _, _, _, rfl⟩
theorem ash_read {t g e ti : TypeId} {k0 k1 k2 f0 f1 : Field} {fuel : Nat} {cs : List Value} {x : DataW H × List MemPlace} (ht : P.underlying t = some (.struct #[k0, k1, k2])) (hT : P.cellsOf t = 8) (m0 : k0.type = ti ∧ k0.offset = 0) (m1 : k1.type = ti ∧ k1.offset = 1) (m2 : k2.type = g ∧ k2.offset = 2)
    (hg : P.underlying g = some (.array 3 e)) (hC : P.cellsOf g = 6) (he : P.underlying e = some (.struct #[f0, f1])) (hE : P.cellsOf e = 2) (h0 : f0.type = ti ∧ f0.offset = 0) (h1 : f1.type = ti ∧ f1.offset = 1)
    (hi : P.underlying ti = some (.int .i64)) (c1 : P.cellsOf ti = 1) (h : DataW.trod enc P w base spare held fuel t cs = some x) : ∃ p : As, cs = [.int .i64 p.id, .int .i64 p.mark, .int .i64 p.a.lo, .int .i64 p.a.hi, .int .i64 p.b.lo, .int .i64 p.b.hi, .int .i64 p.c.lo, .int .i64 p.c.hi] := by
  obtain ⟨xs, n, rfl, rfl, hl, hn, hf⟩ := DataW.trod_struct ht h
  have e0 := hf 0 k0 rfl
  have e1 := hf 1 k1 rfl
  have e2 := hf 2 k2 rfl
  rw [m0.1, m0.2, c1] at e0
  rw [m1.1, m1.2, c1] at e1
  rw [m2.1, m2.2, hC] at e2
  rw [hT] at hl
  match cs, hl with
  | [u0, u1, u2, u3, u4, u5, u6, u7], _ =>
    match xs, hn with
    | [x0, x1, x2], _ =>
      obtain ⟨a, j0, _, _⟩ := DataW.trod_int hi (show DataW.trod enc P w base spare held n ti _ = some x0 from e0)
      obtain ⟨b, j1, _, _⟩ := DataW.trod_int hi (show DataW.trod enc P w base spare held n ti _ = some x1 from e1)
      obtain ⟨q0, q1, q2, q3, q4, q5, j2⟩ := grain_read hg hC he hE h0 h1 hi c1 (show DataW.trod enc P w base spare held n g _ = some x2 from e2)
      simp at j0 j1 j2
      subst j0 j1
      obtain ⟨rfl, rfl, rfl, rfl, rfl, rfl⟩ := j2
      exact ⟨⟨a, b, ⟨_, _⟩, ⟨_, _⟩, ⟨_, _⟩⟩, rfl⟩
def ashV (l : List As) : List Value := l.flatMap fun p => [.int .i64 p.id, .int .i64 p.mark, .int .i64 p.a.lo, .int .i64 p.a.hi, .int .i64 p.b.lo, .int .i64 p.b.hi, .int .i64 p.c.lo, .int .i64 p.c.hi]
def ashC (p : As) : Nat → Int
  | 0 => p.id
  | 1 => p.mark
  | 2 => p.a.lo
  | 3 => p.a.hi
  | 4 => p.b.lo
  | 5 => p.b.hi
  | 6 => p.c.lo
  | _ => p.c.hi
theorem ashV_get : ∀ (l : List As) (j : Nat) (v : Value), (ashV l)[j]? = some v → ∃ i p k, l[i]? = some p ∧ k < 8 ∧ j = i * 8 + k ∧ v = .int .i64 (ashC p k)
  | [], _, _, h => by simp [ashV] at h
  | p :: l, 0, v, h => by
    simp [ashV] at h
    exact ⟨0, p, 0, rfl, by omega, by omega, h.symm⟩
  | p :: l, 1, v, h => by
    simp [ashV] at h
    exact ⟨0, p, 1, rfl, by omega, by omega, h.symm⟩
  | p :: l, 2, v, h => by
    simp [ashV] at h
    exact ⟨0, p, 2, rfl, by omega, by omega, h.symm⟩
  | p :: l, 3, v, h => by
    simp [ashV] at h
    exact ⟨0, p, 3, rfl, by omega, by omega, h.symm⟩
  | p :: l, 4, v, h => by
    simp [ashV] at h
    exact ⟨0, p, 4, rfl, by omega, by omega, h.symm⟩
  | p :: l, 5, v, h => by
    simp [ashV] at h
    exact ⟨0, p, 5, rfl, by omega, by omega, h.symm⟩
  | p :: l, 6, v, h => by
    simp [ashV] at h
    exact ⟨0, p, 6, rfl, by omega, by omega, h.symm⟩
  | p :: l, 7, v, h => by
    simp [ashV] at h
    exact ⟨0, p, 7, rfl, by omega, by omega, h.symm⟩
  | p :: l, j + 8, v, h => by
    have h' : (ashV l)[j]? = some v := by simpa [ashV] using h
    obtain ⟨i, q, k, h1, h2, h3, h4⟩ := ashV_get l j v h'
    exact ⟨i + 1, q, k, h1, h2, by omega, h4⟩
theorem ashV_one : ∀ l : List As, (ashV l).all (·.oneCell') = true
  | [] => rfl
  | p :: l => by
    have := ashV_one l
    simp only [ashV, List.flatMap_cons, List.all_append, Bool.and_eq_true] at this ⊢
    exact ⟨rfl, this⟩
theorem ashV_den {K : Ctx} : ∀ l : List As, DenL K (ashV l) ((l.map asD).flatMap D.cells)
  | [] => .nil
  | _ :: l => .cons _ _ _ _ (.val _ rfl) (.cons _ _ _ _ (.val _ rfl) (.cons _ _ _ _ (.val _ rfl) (.cons _ _ _ _ (.val _ rfl) (.cons _ _ _ _ (.val _ rfl) (.cons _ _ _ _ (.val _ rfl) (.cons _ _ _ _ (.val _ rfl) (.cons _ _ _ _ (.val _ rfl) (ashV_den l))))))))
/-- A slice of ashes. -/
theorem ashes_den {t z g e ti : TypeId} {k0 k1 k2 f0 f1 : Field} {fuel : Nat} {v : Value} {x : DataW H × List MemPlace} (hz : P.underlying z = some (.slice t)) (ht : P.underlying t = some (.struct #[k0, k1, k2])) (hT : P.cellsOf t = 8) (m0 : k0.type = ti ∧ k0.offset = 0) (m1 : k1.type = ti ∧ k1.offset = 1) (m2 : k2.type = g ∧ k2.offset = 2)
    (hg : P.underlying g = some (.array 3 e)) (hC : P.cellsOf g = 6) (he : P.underlying e = some (.struct #[f0, f1])) (hE : P.cellsOf e = 2) (h0 : f0.type = ti ∧ f0.offset = 0) (h1 : f1.type = ti ∧ f1.offset = 1)
    (hi : P.underlying ti = some (.int .i64)) (c1 : P.cellsOf ti = 1)
    (hok : Cell.okWide P w r b0 z v) (h : DataW.trod enc P w base spare held fuel z [v] = some x) : ∃ l : List As, l.length ≤ 9223372036854775807 ∧ Den (ctxOf w) v (assD l) := by
  rcases open_slice hz h with ⟨hcs, _⟩ | ⟨a, len, cap, m, n, _, _, hcs, _, hlc, hcm, hm, _, hel⟩
  · cases hcs
    exact ⟨[], by simp, .slnil false⟩
  · cases hcs
    have hsp := spot_of hz hok
    obtain ⟨b, o, s⟩ := a
    simp only at hsp
    subst hsp
    have hlm : len ≤ m := by rw [hm]; split <;> omega
    have key : ∀ i, ∃ p : As, i < len → ∀ k, k < 8 → w.cell? ⟨b, o + (i * 8 + k), none⟩ = some (.int .i64 (ashC p k)) := by
      intro i
      by_cases hil : i < len
      · obtain ⟨cs', k1, k2⟩ := hel i (by omega)
        obtain ⟨p, rfl⟩ := ash_read ht hT m0 m1 m2 hg hC he hE h0 h1 hi c1 k2
        refine ⟨p, fun _ k hk => ?_⟩
        rw [hT] at k1
        unfold World.cells? at k1
        split at k1
        · simp only [addr_add] at k1
          simp [List.range_succ, Option.bind_eq_some_iff] at k1
          obtain ⟨q0, q1, q2, q3, q4, q5, q6, q7⟩ := k1
          rw [← Nat.add_assoc]
          rcases (show k = 0 ∨ k = 1 ∨ k = 2 ∨ k = 3 ∨ k = 4 ∨ k = 5 ∨ k = 6 ∨ k = 7 by omega) with rfl | rfl | rfl | rfl | rfl | rfl | rfl | rfl
          · exact q0
          · exact q1
          · exact q2
          · exact q3
          · exact q4
          · exact q5
          · exact q6
          · exact q7
        · cases k1
      · exact ⟨⟨0, 0, ⟨0, 0⟩, ⟨0, 0⟩, ⟨0, 0⟩⟩, fun h => absurd h hil⟩
    obtain ⟨f, hf⟩ := Classical.axiomOfChoice key
    refine ⟨(List.range len).map f, by have := hcm; simp [maxLen] at this ⊢; omega, ?_⟩
    have hlen : (((List.range len).map f).map asD).length = len := by simp
    have hv : Value.slice (some ⟨b, o, none⟩) len cap = .slice (some ⟨b, o, none⟩) (((List.range len).map f).map asD).length cap := by rw [hlen]
    rw [hv]
    refine .sl b o cap false 8 _ (ashV ((List.range len).map f)) (fun h => by cases h) (by rw [hlen]; exact hlc) hcm (fun e hm => ?_) (fun j v hj => ?_) (ashV_one _) (ashV_den _)
    · obtain ⟨p, _, rfl⟩ := List.mem_map.1 hm
      rfl
    · obtain ⟨i, p, k, k1, k2, k3, k4⟩ := ashV_get _ j v hj
      rw [List.getElem?_map] at k1
      simp only [Option.map_eq_some_iff] at k1
      obtain ⟨i', k5, rfl⟩ := k1
      have hi' : i < len := by
        have := (List.getElem?_eq_some_iff.1 k5).1
        simpa using this
      have : i' = i := by
        rw [List.getElem?_range hi'] at k5
        exact (Option.some.inj k5).symm
      subst this
      subst k3 k4
      exact ctxOf_cell (hf i' hi' k k2)
end
end Go.Proofs.YtnfhgnbniajhoaaDoor
