/- From the evaluator's answer to what a call does in whatever memory. -/
import Derived.Test.YtkbamkdgiglljaaGreatEmV
import Derived.ChangeSame
import Derived.ChangeAlike
import Derived.Carry
import Derived.OpenVars
import Derived.OpenShut
import Derived.Deep.Slices
import Derived.Lib.SmallJoins
import Derived.WideShapes
namespace Go.Em
open Go Go.RowKit Go.ChangeShapes

section
variable {P : Program} {pg : Pg}

def ctxOf (w : World) : Ctx where
  cell b o := if b < w.heap.size then w.cell? ⟨b, o, none⟩ else none
  obj b := match w.heap[b]? with
    | some (.map es c) => some (.map es c)
    | _ => none
  loc _ := none

theorem ctxOf_cell {w : World} {b o : Nat} {v : Value} (h : w.cell? ⟨b, o, none⟩ = some v) : (ctxOf w).cell b o = some v := by
  have hb : b < w.heap.size := by
    apply Decidable.byContradiction
    intro hn
    have : w.heap[b]? = none := by simp; omega
    simp [World.cell?, this] at h
  simp [ctxOf, hb, h]

theorem start_sim (hP : PgOk P pg) (hg : ∀ g cs, pg.gl g = some cs → D.pureL cs = true) {w : World} (hgl : ∀ g cs, pg.gl g = some cs → Den (ctxOf w) (.pointer (some ⟨g, 0, none⟩)) (.eref cs)) :
    IsC P pg ⟨P, pg, lk P, w, ctxOf w⟩ ∧ Sim ⟨P, pg, lk P, w, ctxOf w⟩ (ctxOf w) .empty w := by
  refine ⟨⟨rfl, rfl, rfl, hg, fun f fc h => by obtain ⟨fn, _, h1, _⟩ := hP.fn h; rw [h1]; rfl⟩, ⟨.refl _ _, hgl, Below.refl _ _, fun b o v x => ?_, fun b o x => ?_, fun k B x => by simp [Heap.empty, Heap.get, Heap.raw, Heap.look] at x, fun k k' B B' b n n' x => by simp [Heap.empty, Heap.get, Heap.raw, Heap.look] at x, fun k _ => rfl, fun k cs x => by simp [Heap.empty, Heap.fzd] at x, fun k cs x => by simp at x, fun k k' cs cs' b n n' x => by simp at x⟩⟩
  · simp only [ctxOf] at x
    split at x
    · rename_i hb; exact ⟨hb, x⟩
    · cases x
  · simp only [ctxOf] at x
    split at x
    · rename_i es c h; cases x; exact ⟨h, es, c, rfl⟩
    · cases x

theorem frz_val_inv {h : Heap} {n : Nat} {d : D} {v : Value} {ks : List Nat} (x : frz h n d = some (.val v, ks)) : d = .val v := by
  cases n with
  | zero => cases x
  | succ n =>
    unfold frz at x
    split at x
    · cases x; rfl
    · split at x
      · cases x
      · cases x
      · simp only [Option.map_eq_some_iff] at x; obtain ⟨p, _, q⟩ := x; cases q
      · simp only [Option.map_eq_some_iff] at x; obtain ⟨p, _, q⟩ := x; cases q
      · simp only [Option.map_eq_some_iff] at x; obtain ⟨p, _, q⟩ := x; cases q
      · split at x <;> cases x
      · simp only [Option.map_eq_some_iff] at x; obtain ⟨p, _, q⟩ := x; cases q
      · cases x
      · simp only [Option.map_eq_some_iff] at x; obtain ⟨p, _, q⟩ := x; cases q
      · simp only [Option.map_eq_some_iff] at x; obtain ⟨p, _, q⟩ := x; cases q
      · split at x
        · simp only [Option.map_eq_some_iff] at x; obtain ⟨p, _, q⟩ := x; cases q
        · simp only [Option.map_eq_some_iff] at x; obtain ⟨p, _, q⟩ := x; cases q
      · split at x
        · split at x
          · simp only [Option.map_eq_some_iff] at x; obtain ⟨p, _, q⟩ := x; cases q
          · cases x
        · split at x
          · split at x <;> cases x
          · cases x
      · split at x
        · simp only [Option.map_eq_some_iff] at x; obtain ⟨p, _, q⟩ := x; cases q
        · cases x
      · cases x
theorem ends_of_pure {n : Nat} {f : FuncId} {args : List D} {v : Value} (x : pureCall (rc pg n) f args = some (.ret (.val v))) : ∃ h, (rc pg n).fn f args .empty = some (.ret (.val v), h) := by
  unfold pureCall at x
  split at x
  · rename_i r h e
    simp only [Option.map_eq_some_iff] at x
    obtain ⟨⟨d, ks⟩, h1, h2⟩ := x
    cases h2
    exact ⟨h, by rw [e, frz_val_inv h1]⟩
  · simp only [Option.map_eq_some_iff] at x
    obtain ⟨p, _, h2⟩ := x
    cases h2
  · cases x

theorem calls_of_pure (hP : PgOk P pg) (hg : ∀ g cs, pg.gl g = some cs → D.pureL cs = true) {f : FuncId} {args : List D} {r : Value} {n : Nat} (x : pureCall (rc pg n) f args = some (.ret (.val r))) {w : World} {vs : List Value}
    (hgl : ∀ g cs, pg.gl g = some cs → Den (ctxOf w) (.pointer (some ⟨g, 0, none⟩)) (.eref cs)) (ha : DenL (ctxOf w) vs args) :
    Calls P f vs.toArray w fun e w' => e = .returned r ∧ Below w.heap.size w w' := by
  obtain ⟨h, x⟩ := ends_of_pure x
  obtain ⟨h1, h2⟩ := start_sim (P := P) hP hg hgl
  have := ((rc_sound hP n).fn.ok f args .empty _ _ x).2 _ _ w vs 0 h1 h2 ha
  refine (CallsIn.calls this (fun _ _ h => by cases h)).mono fun e w' ⟨K', _, hs, ho⟩ => ?_
  cases ho with
  | ret _ v hv => cases hv with | val _ _ => exact ⟨rfl, hs.below⟩
theorem calls_of_from (hP : PgOk P pg) (hg : ∀ g cs, pg.gl g = some cs → D.pureL cs = true) {f : FuncId} {args : List D} {r : Value} (k : Nat) (x : ∀ n, k ≤ n → pureCall (rc pg n) f args = some (.ret (.val r))) {w : World} {vs : List Value}
    (hgl : ∀ g cs, pg.gl g = some cs → Den (ctxOf w) (.pointer (some ⟨g, 0, none⟩)) (.eref cs)) (ha : DenL (ctxOf w) vs args) :
    Calls P f vs.toArray w fun e w' => e = .returned r ∧ Below w.heap.size w w' :=
  calls_of_pure hP hg (x k (Nat.le_refl k)) hgl ha
end

section
variable {H : Type} {enc : TypeId × Value → H} {P : Program}
theorem trodAll_below (hl : laidOutB P = true) {W W' : World} (hb : Below W.heap.size W W') :
    ∀ {ts : List TypeId} {vs : List Value} {ds : List (DataW H)} {ps : List MemPlace}, (∀ t ∈ ts, P.readableRec t = true ∧ t < P.types.size) → DataW.TrodAll enc P W 0 (fun _ => true) true ts vs ds ps → (∀ x ∈ ps, x.block < W.heap.size) →
      DataW.TrodAll enc P W' 0 (fun b => decide (b < W.heap.size)) true ts vs ds ps
  | [], [], [], _, _, h, _ => h
  | t :: ts, v :: vs, d :: ds, ps, ht, h, hx => by
    obtain ⟨p, q, h1, h2, rfl⟩ := h
    exact ⟨p, q, Below.trod hl (ht t (by simp)).1 (ht t (by simp)).2 h1 hb (fun x m => hx x (by simp [m])), trodAll_below hl hb (fun t m => ht t (by simp [m])) h2 (fun x m => hx x (by simp [m])), rfl⟩
  | [], _ :: _, _, _, _, h, _ => by cases h
  | [], [], _ :: _, _, _, h, _ => by cases h
  | _ :: _, [], _, _, _, h, _ => by cases h
  | _ :: _, _ :: _, [], _, _, h, _ => by cases h

theorem post_true {f : Func} {s : ChangeSpec} {W W' : World} {args : Array Value} {ds gs : List (DataW H)} {before : List MemPlace} {tb : TypeId} (hl : laidOutB P = true) (hp : f.params.toList.all (fun t => P.readableRec t && decide (t < P.types.size)) = true)
    (hv : s.vars = []) (hW : DataW.Whole enc P f.params.toList s.vars false W args.toList ds gs before) (hfn : s.fn H (ds ++ gs) = { results := [.lit (.bool true)], args := ds })
    (hr : f.resultTypes = #[tb]) (ht : P.underlying tb = some .bool) (hb : Below W.heap.size W W') : s.post enc P f false true false false W args (.bool true) W' := by
  have hW' := hW
  obtain ⟨p, q, hA, hV, hpq, _, _⟩ := hW
  rw [hv] at hV
  obtain ⟨hg, hq⟩ := trodVars_none hV
  subst hq
  rw [List.append_nil] at hpq
  subst hpq
  refine ⟨ds, gs, before, [], before, [], hW', ?_, ?_, ?_, hb.frame _, fun h => by cases h⟩
  · rw [hfn, hr]
    exact trodAll_mk1 (shut_bool ht _)
  · rw [hfn]
    refine trodAll_below hl hb (fun t m => ?_) hA (fun x m => hW'.lt x m)
    have := List.all_eq_true.1 hp t m
    simpa using this
  · rw [hv, hfn]; rfl
end
end Go.Em
/- A table of words with numbers, as its datum is read off memory. -/
namespace Go.Em
open Go Go.RowKit Go.ChangeShapes
section
variable {H : Type} {enc : TypeId × Value → H} {P : Program} {w : World} {base : Nat} {spare : Nat → Bool} {held : Bool}

end
end Go.Em
/- Arguments that are rows of three numbers, lists of them, arrays of numbers: as the evaluator sees them. -/
namespace Go.Em
open Go Go.RowKit Go.ChangeShapes Go.WideShapes Go.Deep
section
variable {H : Type} {enc : TypeId × Value → H} {P : Program} {w : World} {base : Nat} {spare : Nat → Bool} {held : Bool} {r : Reach} {b0 : Nat}

end
end Go.Em
namespace Go.Em
open Go Go.RowKit Go.ChangeShapes Go.WideShapes Go.Deep
section
variable {H : Type} {enc : TypeId × Value → H} {P : Program} {w : World} {base : Nat} {spare : Nat → Bool} {held : Bool} {r : Reach} {b0 : Nat}
end
end Go.Em
