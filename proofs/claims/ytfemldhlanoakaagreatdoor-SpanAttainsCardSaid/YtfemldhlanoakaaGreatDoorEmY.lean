/- Arguments that are rows of three numbers, lists of them, arrays of numbers: as the evaluator sees them. -/
import Derived.Test.YtfemldhlanoakaaGreatDoorEmX
import Derived.Deep.Slices
import Derived.Lib.SmallJoins
import Derived.WideShapes
namespace Go.Em
open Go Go.RowKit Go.ChangeShapes Go.WideShapes Go.Deep
section
variable {H : Type} {enc : TypeId × Value → H} {P : Program} {w : World} {base : Nat} {spare : Nat → Bool} {held : Bool} {r : Reach} {b0 : Nat}

theorem row_read {t ti : TypeId} {f0 f1 f2 : Field} {fuel : Nat} {cs : List Value} {x : DataW H × List MemPlace} (ht : P.underlying t = some (.struct #[f0, f1, f2])) (hC : P.cellsOf t = 3) (h0 : f0.type = ti ∧ f0.offset = 0) (h1 : f1.type = ti ∧ f1.offset = 1) (h2 : f2.type = ti ∧ f2.offset = 2)
    (hi : P.underlying ti = some (.int .i64)) (c1 : P.cellsOf ti = 1) (h : DataW.trod enc P w base spare held fuel t cs = some x) : ∃ a b c, cs = [.int .i64 a, .int .i64 b, .int .i64 c] := by
  obtain ⟨xs, n, rfl, rfl, hl, hn, hf⟩ := DataW.trod_struct ht h
  have e0 := hf 0 f0 rfl
  have e1 := hf 1 f1 rfl
  have e2 := hf 2 f2 rfl
  rw [h0.1, h0.2, c1] at e0
  rw [h1.1, h1.2, c1] at e1
  rw [h2.1, h2.2, c1] at e2
  rw [hC] at hl
  match cs, hl with
  | [u0, u1, u2], _ =>
    match xs, hn with
    | [x0, x1, x2], _ =>
      obtain ⟨a, j0, _, _⟩ := DataW.trod_int hi (show DataW.trod enc P w base spare held n ti _ = some x0 from e0)
      obtain ⟨b, j1, _, _⟩ := DataW.trod_int hi (show DataW.trod enc P w base spare held n ti _ = some x1 from e1)
      obtain ⟨c, j2, _, _⟩ := DataW.trod_int hi (show DataW.trod enc P w base spare held n ti _ = some x2 from e2)
      simp at j0 j1 j2
      subst j0 j1 j2
      exact ⟨a, b, c, rfl⟩

theorem arr3_read {t ti : TypeId} {fuel : Nat} {cs : List Value} {x : DataW H × List MemPlace} (ht : P.underlying t = some (.array 3 ti)) (hC : P.cellsOf t = 3)
    (hi : P.underlying ti = some (.int .i64)) (c1 : P.cellsOf ti = 1) (h : DataW.trod enc P w base spare held fuel t cs = some x) : ∃ a b c, cs = [.int .i64 a, .int .i64 b, .int .i64 c] := by
  obtain ⟨xs, n, rfl, rfl, hl, hn, hf⟩ := DataW.trod_array ht h
  have e0 := hf 0 (by omega)
  have e1 := hf 1 (by omega)
  have e2 := hf 2 (by omega)
  rw [c1] at e0 e1 e2
  rw [hC] at hl
  match cs, hl with
  | [u0, u1, u2], _ =>
    match xs, hn with
    | [x0, x1, x2], _ =>
      obtain ⟨a, j0, _, _⟩ := DataW.trod_int hi (show DataW.trod enc P w base spare held n ti _ = some x0 from e0)
      obtain ⟨b, j1, _, _⟩ := DataW.trod_int hi (show DataW.trod enc P w base spare held n ti _ = some x1 from e1)
      obtain ⟨c, j2, _, _⟩ := DataW.trod_int hi (show DataW.trod enc P w base spare held n ti _ = some x2 from e2)
      simp at j0 j1 j2
      subst j0 j1 j2
      exact ⟨a, b, c, rfl⟩

theorem spot_of {t e : TypeId} {a : Addr} {len cap : Nat} (ht : P.underlying t = some (.slice e)) (h : Cell.okWide P w r b0 t (.slice (some a) len cap)) : a.spot = none := by
  simp only [Cell.okWide, ht, Cell.ok, World.has] at h
  exact h.2.2.2.1
theorem field_ok {t u : TypeId} {fs : Array Field} {ts : List TypeId} {cs : Array Value} {i : Nat} {v : Value} (hs : P.underlying t = some (.struct fs)) (hv : Value.okWide P w r b0 t (.agg cs)) (hts : P.cellTypes P.depth t = some ts)
    (hi : cs[i]? = some v) (hu : ts[i % ts.length]? = some u) : Cell.okWide P w r b0 u v := by
  simp only [Value.okWide, hs] at hv
  obtain ⟨cs', h1, _, ts', h2, _, h3⟩ := hv
  cases h1
  rw [hts] at h2
  cases h2
  obtain ⟨u', j1, j2⟩ := h3 i v hi
  rw [hu] at j1
  cases j1
  exact j2
theorem agg_of_array {t e : TypeId} {n : Nat} {v : Value} (ht : P.underlying t = some (.array n e)) (hv : Value.okWide P w r b0 t v) : ∃ cs, v = .agg cs := by
  simp only [Value.okWide, ht] at hv
  obtain ⟨cs, h, _⟩ := hv
  exact ⟨cs, h⟩

abbrev I3 := Int × Int × Int
def tripD (p : I3) : D := .agg [D.int p.1, D.int p.2.1, D.int p.2.2]
def tripV (l : List I3) : List Value := l.flatMap fun p => [.int .i64 p.1, .int .i64 p.2.1, .int .i64 p.2.2]
theorem tripV_get : ∀ (l : List I3) (j : Nat) (v : Value), (tripV l)[j]? = some v → ∃ i p, l[i]? = some p ∧ ((j = i * 3 ∧ v = .int .i64 p.1) ∨ (j = i * 3 + 1 ∧ v = .int .i64 p.2.1) ∨ (j = i * 3 + 2 ∧ v = .int .i64 p.2.2))
  | [], _, _, h => by simp [tripV] at h
  | p :: l, 0, v, h => by
    simp [tripV] at h
    exact ⟨0, p, rfl, .inl ⟨rfl, h.symm⟩⟩
  | p :: l, 1, v, h => by
    simp [tripV] at h
    exact ⟨0, p, rfl, .inr (.inl ⟨rfl, h.symm⟩)⟩
  | p :: l, 2, v, h => by
    simp [tripV] at h
    exact ⟨0, p, rfl, .inr (.inr ⟨rfl, h.symm⟩)⟩
  | p :: l, j + 3, v, h => by
    have h' : (tripV l)[j]? = some v := by simpa [tripV] using h
    obtain ⟨i, q, h1, h2⟩ := tripV_get l j v h'
    refine ⟨i + 1, q, h1, ?_⟩
    rcases h2 with ⟨e, hv⟩ | ⟨e, hv⟩ | ⟨e, hv⟩
    · exact .inl ⟨by omega, hv⟩
    · exact .inr (.inl ⟨by omega, hv⟩)
    · exact .inr (.inr ⟨by omega, hv⟩)
theorem tripV_one : ∀ l : List I3, (tripV l).all (·.oneCell') = true
  | [] => rfl
  | p :: l => by
    have := tripV_one l
    simp only [tripV, List.flatMap_cons, List.all_append, Bool.and_eq_true] at this ⊢
    exact ⟨rfl, this⟩
theorem tripV_den {K : Ctx} : ∀ l : List I3, DenL K (tripV l) ((l.map tripD).flatMap D.cells)
  | [] => .nil
  | _ :: l => .cons _ _ _ _ (.val _ rfl) (.cons _ _ _ _ (.val _ rfl) (.cons _ _ _ _ (.val _ rfl) (tripV_den l)))

/-- A slice of rows of three numbers. -/
theorem rows_den {t e ti : TypeId} {f0 f1 f2 : Field} {fuel : Nat} {v : Value} {x : DataW H × List MemPlace} (ht : P.underlying t = some (.slice e)) (he : P.underlying e = some (.struct #[f0, f1, f2])) (hC : P.cellsOf e = 3)
    (h0 : f0.type = ti ∧ f0.offset = 0) (h1 : f1.type = ti ∧ f1.offset = 1) (h2 : f2.type = ti ∧ f2.offset = 2) (hi : P.underlying ti = some (.int .i64)) (c1 : P.cellsOf ti = 1)
    (hok : Cell.okWide P w r b0 t v) (h : DataW.trod enc P w base spare held fuel t [v] = some x) : ∃ l : List I3, Den (ctxOf w) v (.sl false (l.map tripD)) := by
  rcases open_slice ht h with ⟨hcs, _⟩ | ⟨a, len, cap, m, n, _, _, hcs, _, hlc, hcm, hm, _, hel⟩
  · cases hcs
    exact ⟨[], .slnil false⟩
  · cases hcs
    have hsp := spot_of ht hok
    obtain ⟨b, o, s⟩ := a
    simp only at hsp
    subst hsp
    have hlm : len ≤ m := by rw [hm]; split <;> omega
    have key : ∀ i, ∃ p : I3, i < len → w.cell? ⟨b, o + i * 3, none⟩ = some (.int .i64 p.1) ∧ w.cell? ⟨b, o + (i * 3 + 1), none⟩ = some (.int .i64 p.2.1) ∧ w.cell? ⟨b, o + (i * 3 + 2), none⟩ = some (.int .i64 p.2.2) := by
      intro i
      by_cases hil : i < len
      · obtain ⟨cs', k1, k2⟩ := hel i (by omega)
        obtain ⟨p, q, s, rfl⟩ := row_read he hC h0 h1 h2 hi c1 k2
        refine ⟨(p, q, s), fun _ => ?_⟩
        rw [hC] at k1
        unfold World.cells? at k1
        split at k1
        · simp only [addr_add] at k1
          simp [List.range_succ, Option.bind_eq_some_iff] at k1
          exact ⟨k1.1, by rw [← Nat.add_assoc]; exact k1.2.1, by rw [← Nat.add_assoc]; exact k1.2.2⟩
        · cases k1
      · exact ⟨(0, 0, 0), fun h => absurd h hil⟩
    obtain ⟨f, hf⟩ := Classical.axiomOfChoice key
    refine ⟨(List.range len).map f, ?_⟩
    have hlen : (((List.range len).map f).map tripD).length = len := by simp
    have hv : Value.slice (some ⟨b, o, none⟩) len cap = .slice (some ⟨b, o, none⟩) (((List.range len).map f).map tripD).length cap := by rw [hlen]
    rw [hv]
    refine .sl b o cap false 3 _ (tripV ((List.range len).map f)) (fun h => by cases h) (by rw [hlen]; exact hlc) hcm (fun e hm => ?_) (fun j v hj => ?_) (tripV_one _) (tripV_den _)
    · obtain ⟨p, _, rfl⟩ := List.mem_map.1 hm
      rfl
    · obtain ⟨i, p, k1, k2⟩ := tripV_get _ j v hj
      rw [List.getElem?_map] at k1
      simp only [Option.map_eq_some_iff] at k1
      obtain ⟨i', k3, rfl⟩ := k1
      have hi' : i < len := by
        have := (List.getElem?_eq_some_iff.1 k3).1
        simpa using this
      have : i' = i := by
        rw [List.getElem?_range hi'] at k3
        exact (Option.some.inj k3).symm
      subst this
      obtain ⟨q1, q2, q3⟩ := hf i' hi'
      rcases k2 with ⟨rfl, rfl⟩ | ⟨rfl, rfl⟩ | ⟨rfl, rfl⟩
      · exact ctxOf_cell q1
      · exact ctxOf_cell q2
      · exact ctxOf_cell q3
end
end Go.Em
namespace Go.Em
open Go Go.RowKit Go.ChangeShapes Go.WideShapes Go.Deep
section
variable {H : Type} {enc : TypeId × Value → H} {P : Program} {w : World} {base : Nat} {spare : Nat → Bool} {held : Bool} {r : Reach} {b0 : Nat}
/-- A slice of numbers. -/
theorem ints_den {t e : TypeId} {fuel : Nat} {v : Value} {x : DataW H × List MemPlace} (ht : P.underlying t = some (.slice e)) (hi : P.underlying e = some (.int .i64)) (c1 : P.cellsOf e = 1)
    (hok : Cell.okWide P w r b0 t v) (h : DataW.trod enc P w base spare held fuel t [v] = some x) : ∃ l : List Int, Den (ctxOf w) v (.sl false (l.map D.int)) := by
  rcases open_slice ht h with ⟨hcs, _⟩ | ⟨a, len, cap, m, n, _, _, hcs, _, hlc, hcm, hm, _, hel⟩
  · cases hcs
    exact ⟨[], .slnil false⟩
  · cases hcs
    have hsp := spot_of ht hok
    obtain ⟨b, o, s⟩ := a
    simp only at hsp
    subst hsp
    have hlm : len ≤ m := by rw [hm]; split <;> omega
    have key : ∀ i, ∃ p : Int, i < len → w.cell? ⟨b, o + i, none⟩ = some (.int .i64 p) := by
      intro i
      by_cases hil : i < len
      · obtain ⟨cs', k1, k2⟩ := hel i (by omega)
        obtain ⟨p, rfl, _, _⟩ := DataW.trod_int hi k2
        refine ⟨p, fun _ => ?_⟩
        rw [c1] at k1
        unfold World.cells? at k1
        split at k1
        · simp only [addr_add] at k1
          simpa [List.range_succ, Option.bind_eq_some_iff] using k1
        · cases k1
      · exact ⟨0, fun h => absurd h hil⟩
    obtain ⟨f, hf⟩ := Classical.axiomOfChoice key
    refine ⟨(List.range len).map f, ?_⟩
    have hlen : (((List.range len).map f).map D.int).length = len := by simp
    have hv : Value.slice (some ⟨b, o, none⟩) len cap = .slice (some ⟨b, o, none⟩) (((List.range len).map f).map D.int).length cap := by rw [hlen]
    have hcells : ∀ l : List Int, (l.map D.int).flatMap D.cells = l.map D.int := by
      intro l
      induction l with
      | nil => rfl
      | cons a l ih => rw [List.map_cons, List.flatMap_cons, ih]; rfl
    rw [hv]
    refine .sl b o cap false 1 _ (((List.range len).map f).map fun p => .int .i64 p) (fun h => by cases h) (by rw [hlen]; exact hlc) hcm (fun e hm => ?_) (fun j v hj => ?_) ?_ ?_
    · obtain ⟨p, _, rfl⟩ := List.mem_map.1 hm
      rfl
    · rw [List.getElem?_map, List.getElem?_map] at hj
      simp only [Option.map_eq_some_iff] at hj
      obtain ⟨p, ⟨i', k3, rfl⟩, rfl⟩ := hj
      have hi' : j < len := by
        have := (List.getElem?_eq_some_iff.1 k3).1
        simpa using this
      rw [List.getElem?_range hi'] at k3
      obtain rfl := Option.some.inj k3
      exact ctxOf_cell (hf j hi')
    · simp [Value.oneCell']
    · rw [hcells]
      have hden : ∀ l : List Int, DenL (ctxOf w) (l.map fun p => Value.int .i64 p) (l.map D.int) := by
        intro l
        induction l with
        | nil => exact .nil
        | cons a l ih => exact .cons _ _ _ _ (.val _ rfl) ih
      exact hden _
end
end Go.Em
