/- A table of words with numbers, as its datum is read off memory. -/
import Derived.Test.YtfemldhlanoakaaGreatDoorEmW
namespace Go.Em
open Go Go.RowKit Go.ChangeShapes
section
variable {H : Type} {enc : TypeId × Value → H} {P : Program} {w : World} {base : Nat} {spare : Nat → Bool} {held : Bool}

theorem bytes_of {s : ByteArray} {l : List UInt8} (h : s.data.toList = l) : s = ⟨l.toArray⟩ := by
  cases s with
  | mk a => cases a; simp at h; subst h; rfl

/-- A pair of a word and a number. -/
theorem word_read {t ts ti : TypeId} {f0 f1 : Field} {fuel : Nat} {cs : List Value} {x : DataW H × List MemPlace} (ht : P.underlying t = some (.struct #[f0, f1])) (hC : P.cellsOf t = 2) (h0 : f0.type = ts ∧ f0.offset = 0) (h1 : f1.type = ti ∧ f1.offset = 1)
    (hs : P.underlying ts = some .string) (hi : P.underlying ti = some (.int .i64)) (c0 : P.cellsOf ts = 1) (c1 : P.cellsOf ti = 1) (h : DataW.trod enc P w base spare held fuel t cs = some x) :
    ∃ s k, cs = [.string s, .int .i64 k] ∧ x.1 = .agg [.lit (.string s.data.toList), .lit (.int .i64 k)] := by
  obtain ⟨xs, n, rfl, rfl, hl, hn, hf⟩ := DataW.trod_struct ht h
  have e0 := hf 0 f0 rfl
  have e1 := hf 1 f1 rfl
  rw [h0.1, h0.2, c0] at e0
  rw [h1.1, h1.2, c1] at e1
  rw [hC] at hl
  match cs, hl with
  | [a, b], _ =>
    match xs, hn with
    | [x0, x1], _ =>
      obtain ⟨s, j1, j2, _⟩ := DataW.trod_string hs (show DataW.trod enc P w base spare held n ts _ = some x0 from e0)
      obtain ⟨k, k1, k2, _⟩ := DataW.trod_int hi (show DataW.trod enc P w base spare held n ti _ = some x1 from e1)
      simp at j1 k1
      subst j1 k1
      exact ⟨s, k, rfl, by rw [j2, k2]; rfl⟩

/-- An array of such pairs. -/
theorem words_read {n : Nat} {ta t ts ti : TypeId} {f0 f1 : Field} {fuel : Nat} {cs : List Value} {x : DataW H × List MemPlace} (hta : P.underlying ta = some (.array n t)) (ht : P.underlying t = some (.struct #[f0, f1])) (hC : P.cellsOf t = 2)
    (h0 : f0.type = ts ∧ f0.offset = 0) (h1 : f1.type = ti ∧ f1.offset = 1) (hs : P.underlying ts = some .string) (hi : P.underlying ti = some (.int .i64)) (c0 : P.cellsOf ts = 1) (c1 : P.cellsOf ti = 1)
    (h : DataW.trod enc P w base spare held fuel ta cs = some x) {l : List (List UInt8 × Int)} (hl : l.length = n) (hd : x.1 = .agg (l.map fun p => .agg [.lit (.string p.1), .lit (.int .i64 p.2)])) :
    ∀ (i : Nat) (p : List UInt8 × Int), l[i]? = some p → cs[i * 2]? = some (.string ⟨p.1.toArray⟩) ∧ cs[i * 2 + 1]? = some (.int .i64 p.2) := by
  intro i p hp
  obtain ⟨xs, m, rfl, rfl, _, hn, hf⟩ := DataW.trod_array hta h
  have hi' : i < n := by rw [← hl]; exact (List.getElem?_eq_some_iff.1 hp).1
  have e := hf i hi'
  rw [hC] at e
  simp only [DataW.agg.injEq] at hd
  have hx : xs[i]?.map (·.1) = some (.agg [.lit (.string p.1), .lit (.int .i64 p.2)]) := by
    rw [← List.getElem?_map, hd, List.getElem?_map, hp]; rfl
  rw [← e] at hx
  cases e2 : DataW.trod enc P w base spare held m t ((cs.drop (i * 2)).take 2) with
  | none => rw [e2] at hx; cases hx
  | some y =>
    rw [e2] at hx
    obtain ⟨s, k, j1, j2⟩ := word_read ht hC h0 h1 hs hi c0 c1 e2
    simp only [Option.map_some, Option.some.injEq] at hx
    rw [j2] at hx
    simp only [DataW.agg.injEq, List.cons.injEq, DataW.lit.injEq, Lit.string.injEq, Lit.int.injEq, true_and, and_true] at hx
    obtain ⟨q1, q2⟩ := hx
    subst q2
    have g0 : ((cs.drop (i * 2)).take 2)[0]? = some (.string s) := by rw [j1]; rfl
    have g1 : ((cs.drop (i * 2)).take 2)[1]? = some (.int .i64 p.2) := by rw [j1]; rfl
    rw [List.getElem?_take_of_lt (by omega), List.getElem?_drop] at g0 g1
    rw [bytes_of q1] at g0
    exact ⟨by simpa using g0, g1⟩

def wordsV (l : List (List UInt8 × Int)) : List Value := l.flatMap fun p => [.string ⟨p.1.toArray⟩, .int .i64 p.2]
theorem wordsV_get : ∀ (l : List (List UInt8 × Int)) (j : Nat) (v : Value), (wordsV l)[j]? = some v → ∃ i p, l[i]? = some p ∧ ((j = i * 2 ∧ v = .string ⟨p.1.toArray⟩) ∨ (j = i * 2 + 1 ∧ v = .int .i64 p.2))
  | [], _, _, h => by simp [wordsV] at h
  | p :: l, 0, v, h => by
    simp [wordsV] at h
    exact ⟨0, p, rfl, .inl ⟨rfl, h.symm⟩⟩
  | p :: l, 1, v, h => by
    simp [wordsV] at h
    exact ⟨0, p, rfl, .inr ⟨rfl, h.symm⟩⟩
  | p :: l, j + 2, v, h => by
    have h' : (wordsV l)[j]? = some v := by simpa [wordsV] using h
    obtain ⟨i, q, h1, h2⟩ := wordsV_get l j v h'
    refine ⟨i + 1, q, h1, ?_⟩
    rcases h2 with ⟨e, hv⟩ | ⟨e, hv⟩
    · exact .inl ⟨by omega, hv⟩
    · exact .inr ⟨by omega, hv⟩

/-- A variable that holds such an array, as the evaluator sees it. -/
theorem words_den {g : Nat} {cs : Array Value} {l : List (List UInt8 × Int)} (hc : ∀ j v, cs[j]? = some v → w.cell? ⟨g, j, none⟩ = some v)
    (hr : ∀ (i : Nat) (p : List UInt8 × Int), l[i]? = some p → cs.toList[i * 2]? = some (.string ⟨p.1.toArray⟩) ∧ cs.toList[i * 2 + 1]? = some (.int .i64 p.2)) :
    Den (ctxOf w) (.pointer (some ⟨g, 0, none⟩)) (.eref ((wordsV l).map .val)) := by
  refine .eref g 0 (wordsV l) _ (fun j v h => ctxOf_cell ?_) (vals_den ?_)
  · rw [Nat.zero_add]
    obtain ⟨i, p, h1, h2⟩ := wordsV_get l j v h
    obtain ⟨r1, r2⟩ := hr i p h1
    rcases h2 with ⟨rfl, rfl⟩ | ⟨rfl, rfl⟩
    · exact hc _ _ (by simpa using r1)
    · exact hc _ _ (by simpa using r2)
  · clear hr hc
    induction l with
    | nil => rfl
    | cons p l ih => simp [wordsV, Value.oneCell']
end
end Go.Em
