/- From the evaluator's answer to what a call does in whatever memory. -/
import Derived.Test.YtppfjkebamegnaaDoorEmV
import Derived.ChangeSame
import Derived.ChangeAlike
import Derived.Carry
import Derived.OpenVars
import Derived.OpenShut
import Derived.Deep.Slices
import Derived.Lib.SmallJoins
import Derived.WideShapes
namespace Go.Em
open Go Go.RowKit Go.ChangeShapes

section
variable {P : Program} {pg : Pg}

/-- All that memory holds when a call begins. -/
def ctxOf (w : World) : Ctx where
  cell b o := if b < w.heap.size then w.cell? ⟨b, o, none⟩ else none
  obj b := match w.heap[b]? with
    | some (.map es c) => some (.map es c)
    | _ => none
  loc _ := none

theorem ctxOf_cell {w : World} {b o : Nat} {v : Value} (h : w.cell? ⟨b, o, none⟩ = some v) : (ctxOf w).cell b o = some v := by
  have hb : b < w.heap.size := by
    apply Decidable.byContradiction
    intro hn
    have : w.heap[b]? = none := by simp; omega
    simp [World.cell?, this] at h
  simp [ctxOf, hb, h]

theorem start_sim (hg : ∀ g cs, pg.gl g = some cs → D.pureL cs = true) {w : World} (hgl : ∀ g cs, pg.gl g = some cs → Den (ctxOf w) (.pointer (some ⟨g, 0, none⟩)) (.eref cs)) :
    IsC P pg ⟨P, pg, lk P, w, ctxOf w⟩ ∧ Sim ⟨P, pg, lk P, w, ctxOf w⟩ (ctxOf w) .empty w := by
  refine ⟨⟨rfl, rfl, rfl, hg⟩, ⟨.refl _ _, hgl, Below.refl _ _, fun b o v x => ?_, fun b o x => ?_, fun k B x => by simp [Heap.empty, Heap.get, Heap.raw, Heap.look] at x, fun k k' B B' b n n' x => by simp [Heap.empty, Heap.get, Heap.raw, Heap.look] at x, fun k _ => rfl⟩⟩
  · simp only [ctxOf] at x
    split at x
    · rename_i hb; exact ⟨hb, x⟩
    · cases x
  · simp only [ctxOf] at x
    split at x
    · rename_i es c h; cases x; exact ⟨h, es, c, rfl⟩
    · cases x

theorem frz_val_inv {h : Heap} {n : Nat} {d : D} {v : Value} {ks : List Nat} (x : frz h n d = some (.val v, ks)) : d = .val v := by
  cases n with
  | zero => cases x
  | succ n =>
    unfold frz at x
    split at x
    · cases x; rfl
    · split at x
      · cases x
      · cases x
      · simp only [Option.map_eq_some_iff] at x; obtain ⟨p, _, q⟩ := x; cases q
      · simp only [Option.map_eq_some_iff] at x; obtain ⟨p, _, q⟩ := x; cases q
      · simp only [Option.map_eq_some_iff] at x; obtain ⟨p, _, q⟩ := x; cases q
      · split at x <;> cases x
      · simp only [Option.map_eq_some_iff] at x; obtain ⟨p, _, q⟩ := x; cases q
      · cases x
      · simp only [Option.map_eq_some_iff] at x; obtain ⟨p, _, q⟩ := x; cases q
      · simp only [Option.map_eq_some_iff] at x; obtain ⟨p, _, q⟩ := x; cases q
      · split at x
        · simp only [Option.map_eq_some_iff] at x; obtain ⟨p, _, q⟩ := x; cases q
        · cases x
      · split at x
        · split at x
          · simp only [Option.map_eq_some_iff] at x; obtain ⟨p, _, q⟩ := x; cases q
          · cases x
        · cases x
      · split at x
        · simp only [Option.map_eq_some_iff] at x; obtain ⟨p, _, q⟩ := x; cases q
        · cases x
      · cases x
theorem ends_of_pure {n : Nat} {f : FuncId} {args : List D} {v : Value} (x : pureCall (rc pg n) f args = some (.ret (.val v))) : ∃ h, (rc pg n).fn f args .empty = some (.ret (.val v), h) := by
  unfold pureCall at x
  split at x
  · rename_i r h e
    simp only [Option.map_eq_some_iff] at x
    obtain ⟨⟨d, ks⟩, h1, h2⟩ := x
    cases h2
    exact ⟨h, by rw [e, frz_val_inv h1]⟩
  · simp only [Option.map_eq_some_iff] at x
    obtain ⟨p, _, h2⟩ := x
    cases h2
  · cases x

/-- The call does what the evaluator says. -/
theorem calls_of_pure (hP : PgOk P pg) (hg : ∀ g cs, pg.gl g = some cs → D.pureL cs = true) {f : FuncId} {args : List D} {r : Value} {n : Nat} (x : pureCall (rc pg n) f args = some (.ret (.val r))) {w : World} {vs : List Value}
    (hgl : ∀ g cs, pg.gl g = some cs → Den (ctxOf w) (.pointer (some ⟨g, 0, none⟩)) (.eref cs)) (ha : DenL (ctxOf w) vs args) :
    Calls P f vs.toArray w fun e w' => e = .returned r ∧ Below w.heap.size w w' := by
  obtain ⟨h, x⟩ := ends_of_pure x
  obtain ⟨h1, h2⟩ := start_sim (P := P) hg hgl
  have := ((rc_sound hP n).fn.ok f args .empty _ _ x).2 _ _ w vs 0 h1 h2 ha
  refine (CallsIn.calls this (fun _ _ h => by cases h)).mono fun e w' ⟨K', _, hs, ho⟩ => ?_
  cases ho with
  | ret _ v hv => cases hv with | val _ _ => exact ⟨rfl, hs.below⟩
theorem calls_of_from (hP : PgOk P pg) (hg : ∀ g cs, pg.gl g = some cs → D.pureL cs = true) {f : FuncId} {args : List D} {r : Value} (k : Nat) (x : ∀ n, k ≤ n → pureCall (rc pg n) f args = some (.ret (.val r))) {w : World} {vs : List Value}
    (hgl : ∀ g cs, pg.gl g = some cs → Den (ctxOf w) (.pointer (some ⟨g, 0, none⟩)) (.eref cs)) (ha : DenL (ctxOf w) vs args) :
    Calls P f vs.toArray w fun e w' => e = .returned r ∧ Below w.heap.size w w' :=
  calls_of_pure hP hg (x k (Nat.le_refl k)) hgl ha
end

section
variable {H : Type} {enc : TypeId × Value → H} {P : Program}
/-- Arguments read as they read before, below the old heap's end. -/
theorem trodAll_below (hl : laidOutB P = true) {W W' : World} (hb : Below W.heap.size W W') :
    ∀ {ts : List TypeId} {vs : List Value} {ds : List (DataW H)} {ps : List MemPlace}, (∀ t ∈ ts, P.readableRec t = true ∧ t < P.types.size) → DataW.TrodAll enc P W 0 (fun _ => true) true ts vs ds ps → (∀ x ∈ ps, x.block < W.heap.size) →
      DataW.TrodAll enc P W' 0 (fun b => decide (b < W.heap.size)) true ts vs ds ps
  | [], [], [], _, _, h, _ => h
  | t :: ts, v :: vs, d :: ds, ps, ht, h, hx => by
    obtain ⟨p, q, h1, h2, rfl⟩ := h
    exact ⟨p, q, Below.trod hl (ht t (by simp)).1 (ht t (by simp)).2 h1 hb (fun x m => hx x (by simp [m])), trodAll_below hl hb (fun t m => ht t (by simp [m])) h2 (fun x m => hx x (by simp [m])), rfl⟩
  | [], _ :: _, _, _, _, h, _ => by cases h
  | [], [], _ :: _, _, _, h, _ => by cases h
  | _ :: _, [], _, _, _, h, _ => by cases h
  | _ :: _, _ :: _, [], _, _, h, _ => by cases h

/-- The call answered true, and left alone all that was there. -/
theorem post_true {f : Func} {s : ChangeSpec} {W W' : World} {args : Array Value} {ds gs : List (DataW H)} {before : List MemPlace} {tb : TypeId} (hl : laidOutB P = true) (hp : f.params.toList.all (fun t => P.readableRec t && decide (t < P.types.size)) = true)
    (hv : s.vars = []) (hW : DataW.Whole enc P f.params.toList s.vars false W args.toList ds gs before) (hfn : s.fn H (ds ++ gs) = { results := [.lit (.bool true)], args := ds })
    (hr : f.resultTypes = #[tb]) (ht : P.underlying tb = some .bool) (hb : Below W.heap.size W W') : s.post enc P f false true false false W args (.bool true) W' := by
  have hW' := hW
  obtain ⟨p, q, hA, hV, hpq, _, _⟩ := hW
  rw [hv] at hV
  obtain ⟨hg, hq⟩ := trodVars_none hV
  subst hq
  rw [List.append_nil] at hpq
  subst hpq
  refine ⟨ds, gs, before, [], before, [], hW', ?_, ?_, ?_, hb.frame _, fun h => by cases h⟩
  · rw [hfn, hr]
    exact trodAll_mk1 (shut_bool ht _)
  · rw [hfn]
    refine trodAll_below hl hb (fun t m => ?_) hA (fun x m => hW'.lt x m)
    have := List.all_eq_true.1 hp t m
    simpa using this
  · rw [hv, hfn]; rfl
end
end Go.Em
/- A table of words with numbers, as its datum is read off memory. -/
namespace Go.Em
open Go Go.RowKit Go.ChangeShapes
section
variable {H : Type} {enc : TypeId × Value → H} {P : Program} {w : World} {base : Nat} {spare : Nat → Bool} {held : Bool}

theorem bytes_of {s : ByteArray} {l : List UInt8} (h : s.data.toList = l) : s = ⟨l.toArray⟩ := by
  cases s with
  | mk a => cases a; simp at h; subst h; rfl

/-- A pair of a word and a number. -/
theorem word_read {t ts ti : TypeId} {f0 f1 : Field} {fuel : Nat} {cs : List Value} {x : DataW H × List MemPlace} (ht : P.underlying t = some (.struct #[f0, f1])) (hC : P.cellsOf t = 2) (h0 : f0.type = ts ∧ f0.offset = 0) (h1 : f1.type = ti ∧ f1.offset = 1)
    (hs : P.underlying ts = some .string) (hi : P.underlying ti = some (.int .i64)) (c0 : P.cellsOf ts = 1) (c1 : P.cellsOf ti = 1) (h : DataW.trod enc P w base spare held fuel t cs = some x) :
    ∃ s k, cs = [.string s, .int .i64 k] ∧ x.1 = .agg [.lit (.string s.data.toList), .lit (.int .i64 k)] := by
  obtain ⟨xs, n, rfl, rfl, hl, hn, hf⟩ := DataW.trod_struct ht h
  have e0 := hf 0 f0 rfl
  have e1 := hf 1 f1 rfl
  rw [h0.1, h0.2, c0] at e0
  rw [h1.1, h1.2, c1] at e1
  rw [hC] at hl
  match cs, hl with
  | [a, b], _ =>
    match xs, hn with
    | [x0, x1], _ =>
      obtain ⟨s, j1, j2, _⟩ := DataW.trod_string hs (show DataW.trod enc P w base spare held n ts _ = some x0 from e0)
      obtain ⟨k, k1, k2, _⟩ := DataW.trod_int hi (show DataW.trod enc P w base spare held n ti _ = some x1 from e1)
      simp at j1 k1
      subst j1 k1
      exact ⟨s, k, rfl, by rw [j2, k2]; rfl⟩

/-- An array of such pairs. -/
theorem words_read {n : Nat} {ta t ts ti : TypeId} {f0 f1 : Field} {fuel : Nat} {cs : List Value} {x : DataW H × List MemPlace} (hta : P.underlying ta = some (.array n t)) (ht : P.underlying t = some (.struct #[f0, f1])) (hC : P.cellsOf t = 2)
    (h0 : f0.type = ts ∧ f0.offset = 0) (h1 : f1.type = ti ∧ f1.offset = 1) (hs : P.underlying ts = some .string) (hi : P.underlying ti = some (.int .i64)) (c0 : P.cellsOf ts = 1) (c1 : P.cellsOf ti = 1)
    (h : DataW.trod enc P w base spare held fuel ta cs = some x) {l : List (List UInt8 × Int)} (hl : l.length = n) (hd : x.1 = .agg (l.map fun p => .agg [.lit (.string p.1), .lit (.int .i64 p.2)])) :
    ∀ (i : Nat) (p : List UInt8 × Int), l[i]? = some p → cs[i * 2]? = some (.string ⟨p.1.toArray⟩) ∧ cs[i * 2 + 1]? = some (.int .i64 p.2) := by
  intro i p hp
  obtain ⟨xs, m, rfl, rfl, _, hn, hf⟩ := DataW.trod_array hta h
  have hi' : i < n := by rw [← hl]; exact (List.getElem?_eq_some_iff.1 hp).1
  have e := hf i hi'
  rw [hC] at e
  simp only [DataW.agg.injEq] at hd
  have hx : xs[i]?.map (·.1) = some (.agg [.lit (.string p.1), .lit (.int .i64 p.2)]) := by
    rw [← List.getElem?_map, hd, List.getElem?_map, hp]; rfl
  rw [← e] at hx
  cases e2 : DataW.trod enc P w base spare held m t ((cs.drop (i * 2)).take 2) with
  | none => rw [e2] at hx; cases hx
  | some y =>
    rw [e2] at hx
    obtain ⟨s, k, j1, j2⟩ := word_read ht hC h0 h1 hs hi c0 c1 e2
    simp only [Option.map_some, Option.some.injEq] at hx
    rw [j2] at hx
    simp only [DataW.agg.injEq, List.cons.injEq, DataW.lit.injEq, Lit.string.injEq, Lit.int.injEq, true_and, and_true] at hx
    obtain ⟨q1, q2⟩ := hx
    subst q2
    have g0 : ((cs.drop (i * 2)).take 2)[0]? = some (.string s) := by rw [j1]; rfl
    have g1 : ((cs.drop (i * 2)).take 2)[1]? = some (.int .i64 p.2) := by rw [j1]; rfl
    rw [List.getElem?_take_of_lt (by omega), List.getElem?_drop] at g0 g1
    rw [bytes_of q1] at g0
    exact ⟨by simpa using g0, g1⟩

def wordsV (l : List (List UInt8 × Int)) : List Value := l.flatMap fun p => [.string ⟨p.1.toArray⟩, .int .i64 p.2]
theorem wordsV_get : ∀ (l : List (List UInt8 × Int)) (j : Nat) (v : Value), (wordsV l)[j]? = some v → ∃ i p, l[i]? = some p ∧ ((j = i * 2 ∧ v = .string ⟨p.1.toArray⟩) ∨ (j = i * 2 + 1 ∧ v = .int .i64 p.2))
  | [], _, _, h => by simp [wordsV] at h
  | p :: l, 0, v, h => by
    simp [wordsV] at h
    exact ⟨0, p, rfl, .inl ⟨rfl, h.symm⟩⟩
  | p :: l, 1, v, h => by
    simp [wordsV] at h
    exact ⟨0, p, rfl, .inr ⟨rfl, h.symm⟩⟩
  | p :: l, j + 2, v, h => by
    have h' : (wordsV l)[j]? = some v := by simpa [wordsV] using h
    obtain ⟨i, q, h1, h2⟩ := wordsV_get l j v h'
    refine ⟨i + 1, q, h1, ?_⟩
    rcases h2 with ⟨e, hv⟩ | ⟨e, hv⟩
    · exact .inl ⟨by omega, hv⟩
    · exact .inr ⟨by omega, hv⟩

/-- A variable that holds such an array, as the evaluator sees it. -/
theorem words_den {g : Nat} {cs : Array Value} {l : List (List UInt8 × Int)} (hc : ∀ j v, cs[j]? = some v → w.cell? ⟨g, j, none⟩ = some v)
    (hr : ∀ (i : Nat) (p : List UInt8 × Int), l[i]? = some p → cs.toList[i * 2]? = some (.string ⟨p.1.toArray⟩) ∧ cs.toList[i * 2 + 1]? = some (.int .i64 p.2)) :
    Den (ctxOf w) (.pointer (some ⟨g, 0, none⟩)) (.eref ((wordsV l).map .val)) := by
  refine .eref g 0 (wordsV l) _ (fun j v h => ctxOf_cell ?_) (vals_den ?_)
  · rw [Nat.zero_add]
    obtain ⟨i, p, h1, h2⟩ := wordsV_get l j v h
    obtain ⟨r1, r2⟩ := hr i p h1
    rcases h2 with ⟨rfl, rfl⟩ | ⟨rfl, rfl⟩
    · exact hc _ _ (by simpa using r1)
    · exact hc _ _ (by simpa using r2)
  · clear hr hc
    induction l with
    | nil => rfl
    | cons p l ih => simp [wordsV, Value.oneCell']
end
end Go.Em
/- Arguments that are rows of three numbers, lists of them, arrays of numbers: as the evaluator sees them. -/
namespace Go.Em
open Go Go.RowKit Go.ChangeShapes Go.WideShapes Go.Deep
section
variable {H : Type} {enc : TypeId × Value → H} {P : Program} {w : World} {base : Nat} {spare : Nat → Bool} {held : Bool} {r : Reach} {b0 : Nat}

theorem row_read {t ti : TypeId} {f0 f1 f2 : Field} {fuel : Nat} {cs : List Value} {x : DataW H × List MemPlace} (ht : P.underlying t = some (.struct #[f0, f1, f2])) (hC : P.cellsOf t = 3) (h0 : f0.type = ti ∧ f0.offset = 0) (h1 : f1.type = ti ∧ f1.offset = 1) (h2 : f2.type = ti ∧ f2.offset = 2)
    (hi : P.underlying ti = some (.int .i64)) (c1 : P.cellsOf ti = 1) (h : DataW.trod enc P w base spare held fuel t cs = some x) : ∃ a b c, cs = [.int .i64 a, .int .i64 b, .int .i64 c] := by
  obtain ⟨xs, n, rfl, rfl, hl, hn, hf⟩ := DataW.trod_struct ht h
  have e0 := hf 0 f0 rfl
  have e1 := hf 1 f1 rfl
  have e2 := hf 2 f2 rfl
  rw [h0.1, h0.2, c1] at e0
  rw [h1.1, h1.2, c1] at e1
  rw [h2.1, h2.2, c1] at e2
  rw [hC] at hl
  match cs, hl with
  | [u0, u1, u2], _ =>
    match xs, hn with
    | [x0, x1, x2], _ =>
      obtain ⟨a, j0, _, _⟩ := DataW.trod_int hi (show DataW.trod enc P w base spare held n ti _ = some x0 from e0)
      obtain ⟨b, j1, _, _⟩ := DataW.trod_int hi (show DataW.trod enc P w base spare held n ti _ = some x1 from e1)
      obtain ⟨c, j2, _, _⟩ := DataW.trod_int hi (show DataW.trod enc P w base spare held n ti _ = some x2 from e2)
      simp at j0 j1 j2
      subst j0 j1 j2
      exact ⟨a, b, c, rfl⟩

theorem arr3_read {t ti : TypeId} {fuel : Nat} {cs : List Value} {x : DataW H × List MemPlace} (ht : P.underlying t = some (.array 3 ti)) (hC : P.cellsOf t = 3)
    (hi : P.underlying ti = some (.int .i64)) (c1 : P.cellsOf ti = 1) (h : DataW.trod enc P w base spare held fuel t cs = some x) : ∃ a b c, cs = [.int .i64 a, .int .i64 b, .int .i64 c] := by
  obtain ⟨xs, n, rfl, rfl, hl, hn, hf⟩ := DataW.trod_array ht h
  have e0 := hf 0 (by omega)
  have e1 := hf 1 (by omega)
  have e2 := hf 2 (by omega)
  rw [c1] at e0 e1 e2
  rw [hC] at hl
  match cs, hl with
  | [u0, u1, u2], _ =>
    match xs, hn with
    | [x0, x1, x2], _ =>
      obtain ⟨a, j0, _, _⟩ := DataW.trod_int hi (show DataW.trod enc P w base spare held n ti _ = some x0 from e0)
      obtain ⟨b, j1, _, _⟩ := DataW.trod_int hi (show DataW.trod enc P w base spare held n ti _ = some x1 from e1)
      obtain ⟨c, j2, _, _⟩ := DataW.trod_int hi (show DataW.trod enc P w base spare held n ti _ = some x2 from e2)
      simp at j0 j1 j2
      subst j0 j1 j2
      exact ⟨a, b, c, rfl⟩

theorem spot_of {t e : TypeId} {a : Addr} {len cap : Nat} (ht : P.underlying t = some (.slice e)) (h : Cell.okWide P w r b0 t (.slice (some a) len cap)) : a.spot = none := by
  simp only [Cell.okWide, ht, Cell.ok, World.has] at h
  exact h.2.2.2.1
theorem field_ok {t u : TypeId} {fs : Array Field} {ts : List TypeId} {cs : Array Value} {i : Nat} {v : Value} (hs : P.underlying t = some (.struct fs)) (hv : Value.okWide P w r b0 t (.agg cs)) (hts : P.cellTypes P.depth t = some ts)
    (hi : cs[i]? = some v) (hu : ts[i % ts.length]? = some u) : Cell.okWide P w r b0 u v := by
  simp only [Value.okWide, hs] at hv
  obtain ⟨cs', h1, _, ts', h2, _, h3⟩ := hv
  cases h1
  rw [hts] at h2
  cases h2
  obtain ⟨u', j1, j2⟩ := h3 i v hi
  rw [hu] at j1
  cases j1
  exact j2
theorem agg_of_array {t e : TypeId} {n : Nat} {v : Value} (ht : P.underlying t = some (.array n e)) (hv : Value.okWide P w r b0 t v) : ∃ cs, v = .agg cs := by
  simp only [Value.okWide, ht] at hv
  obtain ⟨cs, h, _⟩ := hv
  exact ⟨cs, h⟩

abbrev I3 := Int × Int × Int
def tripD (p : I3) : D := .agg [D.int p.1, D.int p.2.1, D.int p.2.2]
def tripV (l : List I3) : List Value := l.flatMap fun p => [.int .i64 p.1, .int .i64 p.2.1, .int .i64 p.2.2]
theorem tripV_get : ∀ (l : List I3) (j : Nat) (v : Value), (tripV l)[j]? = some v → ∃ i p, l[i]? = some p ∧ ((j = i * 3 ∧ v = .int .i64 p.1) ∨ (j = i * 3 + 1 ∧ v = .int .i64 p.2.1) ∨ (j = i * 3 + 2 ∧ v = .int .i64 p.2.2))
  | [], _, _, h => by simp [tripV] at h
  | p :: l, 0, v, h => by
    simp [tripV] at h
    exact ⟨0, p, rfl, .inl ⟨rfl, h.symm⟩⟩
  | p :: l, 1, v, h => by
    simp [tripV] at h
    exact ⟨0, p, rfl, .inr (.inl ⟨rfl, h.symm⟩)⟩
  | p :: l, 2, v, h => by
    simp [tripV] at h
    exact ⟨0, p, rfl, .inr (.inr ⟨rfl, h.symm⟩)⟩
  | p :: l, j + 3, v, h => by
    have h' : (tripV l)[j]? = some v := by simpa [tripV] using h
    obtain ⟨i, q, h1, h2⟩ := tripV_get l j v h'
    refine ⟨i + 1, q, h1, ?_⟩
    rcases h2 with ⟨e, hv⟩ | ⟨e, hv⟩ | ⟨e, hv⟩
    · exact .inl ⟨by omega, hv⟩
    · exact .inr (.inl ⟨by omega, hv⟩)
    · exact .inr (.inr ⟨by omega, hv⟩)
theorem tripV_one : ∀ l : List I3, (tripV l).all (·.oneCell') = true
  | [] => rfl
  | p :: l => by
    have := tripV_one l
    simp only [tripV, List.flatMap_cons, List.all_append, Bool.and_eq_true] at this ⊢
    exact ⟨rfl, this⟩
theorem tripV_den {K : Ctx} : ∀ l : List I3, DenL K (tripV l) ((l.map tripD).flatMap D.cells)
  | [] => .nil
  | _ :: l => .cons _ _ _ _ (.val _ rfl) (.cons _ _ _ _ (.val _ rfl) (.cons _ _ _ _ (.val _ rfl) (tripV_den l)))

/-- A slice of rows of three numbers. -/
theorem rows_den {t e ti : TypeId} {f0 f1 f2 : Field} {fuel : Nat} {v : Value} {x : DataW H × List MemPlace} (ht : P.underlying t = some (.slice e)) (he : P.underlying e = some (.struct #[f0, f1, f2])) (hC : P.cellsOf e = 3)
    (h0 : f0.type = ti ∧ f0.offset = 0) (h1 : f1.type = ti ∧ f1.offset = 1) (h2 : f2.type = ti ∧ f2.offset = 2) (hi : P.underlying ti = some (.int .i64)) (c1 : P.cellsOf ti = 1)
    (hok : Cell.okWide P w r b0 t v) (h : DataW.trod enc P w base spare held fuel t [v] = some x) : ∃ l : List I3, Den (ctxOf w) v (.sl false (l.map tripD)) := by
  rcases open_slice ht h with ⟨hcs, _⟩ | ⟨a, len, cap, m, n, _, _, hcs, _, hlc, hcm, hm, _, hel⟩
  · cases hcs
    exact ⟨[], .slnil false⟩
  · cases hcs
    have hsp := spot_of ht hok
    obtain ⟨b, o, s⟩ := a
    simp only at hsp
    subst hsp
    have hlm : len ≤ m := by rw [hm]; split <;> omega
    have key : ∀ i, ∃ p : I3, i < len → w.cell? ⟨b, o + i * 3, none⟩ = some (.int .i64 p.1) ∧ w.cell? ⟨b, o + (i * 3 + 1), none⟩ = some (.int .i64 p.2.1) ∧ w.cell? ⟨b, o + (i * 3 + 2), none⟩ = some (.int .i64 p.2.2) := by
      intro i
      by_cases hil : i < len
      · obtain ⟨cs', k1, k2⟩ := hel i (by omega)
        obtain ⟨p, q, s, rfl⟩ := row_read he hC h0 h1 h2 hi c1 k2
        refine ⟨(p, q, s), fun _ => ?_⟩
        rw [hC] at k1
        unfold World.cells? at k1
        split at k1
        · simp only [addr_add] at k1
          simp [List.range_succ, Option.bind_eq_some_iff] at k1
          exact ⟨k1.1, by rw [← Nat.add_assoc]; exact k1.2.1, by rw [← Nat.add_assoc]; exact k1.2.2⟩
        · cases k1
      · exact ⟨(0, 0, 0), fun h => absurd h hil⟩
    obtain ⟨f, hf⟩ := Classical.axiomOfChoice key
    refine ⟨(List.range len).map f, ?_⟩
    have hlen : (((List.range len).map f).map tripD).length = len := by simp
    have hv : Value.slice (some ⟨b, o, none⟩) len cap = .slice (some ⟨b, o, none⟩) (((List.range len).map f).map tripD).length cap := by rw [hlen]
    rw [hv]
    refine .sl b o cap false 3 _ (tripV ((List.range len).map f)) (fun h => by cases h) (by rw [hlen]; exact hlc) hcm (fun e hm => ?_) (fun j v hj => ?_) (tripV_one _) (tripV_den _)
    · obtain ⟨p, _, rfl⟩ := List.mem_map.1 hm
      rfl
    · obtain ⟨i, p, k1, k2⟩ := tripV_get _ j v hj
      rw [List.getElem?_map] at k1
      simp only [Option.map_eq_some_iff] at k1
      obtain ⟨i', k3, rfl⟩ := k1
      have hi' : i < len := by
        have := (List.getElem?_eq_some_iff.1 k3).1
        simpa using this
      have : i' = i := by
        rw [List.getElem?_range hi'] at k3
        exact (Option.some.inj k3).symm
      subst this
      obtain ⟨q1, q2, q3⟩ := hf i' hi'
      rcases k2 with ⟨rfl, rfl⟩ | ⟨rfl, rfl⟩ | ⟨rfl, rfl⟩
      · exact ctxOf_cell q1
      · exact ctxOf_cell q2
      · exact ctxOf_cell q3
end
end Go.Em
namespace Go.Em
open Go Go.RowKit Go.ChangeShapes Go.WideShapes Go.Deep
section
variable {H : Type} {enc : TypeId × Value → H} {P : Program} {w : World} {base : Nat} {spare : Nat → Bool} {held : Bool} {r : Reach} {b0 : Nat}
/-- A slice of numbers. -/
theorem ints_den {t e : TypeId} {fuel : Nat} {v : Value} {x : DataW H × List MemPlace} (ht : P.underlying t = some (.slice e)) (hi : P.underlying e = some (.int .i64)) (c1 : P.cellsOf e = 1)
    (hok : Cell.okWide P w r b0 t v) (h : DataW.trod enc P w base spare held fuel t [v] = some x) : ∃ l : List Int, Den (ctxOf w) v (.sl false (l.map D.int)) := by
  rcases open_slice ht h with ⟨hcs, _⟩ | ⟨a, len, cap, m, n, _, _, hcs, _, hlc, hcm, hm, _, hel⟩
  · cases hcs
    exact ⟨[], .slnil false⟩
  · cases hcs
    have hsp := spot_of ht hok
    obtain ⟨b, o, s⟩ := a
    simp only at hsp
    subst hsp
    have hlm : len ≤ m := by rw [hm]; split <;> omega
    have key : ∀ i, ∃ p : Int, i < len → w.cell? ⟨b, o + i, none⟩ = some (.int .i64 p) := by
      intro i
      by_cases hil : i < len
      · obtain ⟨cs', k1, k2⟩ := hel i (by omega)
        obtain ⟨p, rfl, _, _⟩ := DataW.trod_int hi k2
        refine ⟨p, fun _ => ?_⟩
        rw [c1] at k1
        unfold World.cells? at k1
        split at k1
        · simp only [addr_add] at k1
          simpa [List.range_succ, Option.bind_eq_some_iff] using k1
        · cases k1
      · exact ⟨0, fun h => absurd h hil⟩
    obtain ⟨f, hf⟩ := Classical.axiomOfChoice key
    refine ⟨(List.range len).map f, ?_⟩
    have hlen : (((List.range len).map f).map D.int).length = len := by simp
    have hv : Value.slice (some ⟨b, o, none⟩) len cap = .slice (some ⟨b, o, none⟩) (((List.range len).map f).map D.int).length cap := by rw [hlen]
    have hcells : ∀ l : List Int, (l.map D.int).flatMap D.cells = l.map D.int := by
      intro l
      induction l with
      | nil => rfl
      | cons a l ih => rw [List.map_cons, List.flatMap_cons, ih]; rfl
    rw [hv]
    refine .sl b o cap false 1 _ (((List.range len).map f).map fun p => .int .i64 p) (fun h => by cases h) (by rw [hlen]; exact hlc) hcm (fun e hm => ?_) (fun j v hj => ?_) ?_ ?_
    · obtain ⟨p, _, rfl⟩ := List.mem_map.1 hm
      rfl
    · rw [List.getElem?_map, List.getElem?_map] at hj
      simp only [Option.map_eq_some_iff] at hj
      obtain ⟨p, ⟨i', k3, rfl⟩, rfl⟩ := hj
      have hi' : j < len := by
        have := (List.getElem?_eq_some_iff.1 k3).1
        simpa using this
      rw [List.getElem?_range hi'] at k3
      obtain rfl := Option.some.inj k3
      exact ctxOf_cell (hf j hi')
    · simp [Value.oneCell']
    · rw [hcells]
      have hden : ∀ l : List Int, DenL (ctxOf w) (l.map fun p => Value.int .i64 p) (l.map D.int) := by
        intro l
        induction l with
        | nil => exact .nil
        | cons a l ih => exact .cons _ _ _ _ (.val _ rfl) ih
      exact hden _
end
end Go.Em
