/- What Go values stand for: trees for memory that no one changes any more, references into a heap of numbered blocks for the rest. -/
import Derived.WalkKit
import Derived.OwnWalkIn
import Derived.RangeFuncCalls
namespace Go.Em
open Go Go.RowKit

/-- What a Go value stands for. -/
inductive D where
  | val (v : Value)
  | agg (cs : List D)
  | tup (cs : List D)
  | sl (z : Bool) (es : List D)
  | sle
  | fn (f : Fn) (fs caps : List D)
  | eref (cs : List D)
  | map (es : List (D × D))
  | iface (t : TypeId) (d : D)
  | junk
  | ptr (k o : Nat)
  | slr (k o n sz : Nat) (c : Option Nat)
  | mapr (k : Nat)
  | yld (k : Nat)

namespace D
abbrev int (n : Int) : D := .val (.int .i64 n)
abbrev bool (b : Bool) : D := .val (.bool b)
def cells : D → List D
  | .agg cs => cs
  | d => [d]
/-- What is one cell, as far as data tell. -/
def one : D → Bool
  | .agg _ | .tup _ | .junk => false
  | _ => true
mutual
/-- No reference into the heap. -/
def pure : D → Bool
  | .val _ | .junk | .sle => true
  | .agg cs | .tup cs | .eref cs | .sl _ cs => pureL cs
  | .fn _ fs cs => pureL fs && pureL cs
  | .map es => pureE es
  | .iface _ d => d.pure
  | .ptr .. | .slr .. | .mapr _ | .yld _ => false
def pureL : List D → Bool
  | [] => true
  | d :: l => d.pure && pureL l
def pureE : List (D × D) → Bool
  | [] => true
  | (k, v) :: l => k.pure && v.pure && pureE l
end
mutual
/-- No memory behind it at all. -/
def flat : D → Bool
  | .val _ | .junk | .sle => true
  | .agg cs | .tup cs => flatL cs
  | .fn _ fs cs => flatL fs && flatL cs
  | .iface _ d => d.flat
  | .sl _ es => es.isEmpty
  | .eref cs => cs.isEmpty
  | .map _ | .ptr .. | .slr .. | .mapr _ | .yld _ => false
def flatL : List D → Bool
  | [] => true
  | d :: l => d.flat && flatL l
end
end D

/-- Memory that no step changes any more; where the blocks of the heap lie, and how many cells they have. -/
structure Ctx where
  cell : Nat → Nat → Option Value
  obj : Nat → Option Obj
  loc : Nat → Option (Nat × Nat)

structure Ctx.le (S S' : Ctx) : Prop where
  cell : ∀ b o v, S.cell b o = some v → S'.cell b o = some v
  obj : ∀ b o, S.obj b = some o → S'.obj b = some o
  loc : ∀ k p, S.loc k = some p → S'.loc k = some p
theorem Ctx.le.refl (S : Ctx) : S.le S := ⟨fun _ _ _ h => h, fun _ _ h => h, fun _ _ h => h⟩
theorem Ctx.le.trans {A B C : Ctx} (h : A.le B) (k : B.le C) : A.le C :=
  ⟨fun b o v x => k.cell b o v (h.cell b o v x), fun b o x => k.obj b o (h.obj b o x), fun b o x => k.loc b o (h.loc b o x)⟩

mutual
inductive Den (S : Ctx) : Value → D → Prop
  | val (v : Value) : v.oneCell' = true → Den S v (.val v)
  | agg (vs : List Value) (cs : List D) : DenL S vs cs → Den S (.agg vs.toArray) (.agg cs)
  | tup (vs : List Value) (cs : List D) : DenL S vs cs → Den S (.tuple vs.toArray) (.tup cs)
  | slnil (z : Bool) : Den S (.slice none 0 0) (.sl z [])
  | sl (b o cap : Nat) (z : Bool) (sz : Nat) (es : List D) (us : List Value) : (z = true → cap = es.length) → es.length ≤ cap → cap ≤ maxLen →
      (∀ e, e ∈ es → e.cells.length = sz) → (∀ i v, us[i]? = some v → S.cell b (o + i) = some v) → us.all (·.oneCell') = true → DenL S us (es.flatMap D.cells) →
      Den S (.slice (some ⟨b, o, none⟩) es.length cap) (.sl z es)
  | sle (b o cap : Nat) : cap ≤ maxLen → Den S (.slice (some ⟨b, o, none⟩) 0 cap) .sle
  | fn (f : Fn) (us vs : List Value) (fs caps : List D) : DenL S us fs → DenL S vs caps → Den S (.func f us.toArray vs.toArray) (.fn f fs caps)
  | eref (b o : Nat) (us : List Value) (cs : List D) : (∀ i v, us[i]? = some v → S.cell b (o + i) = some v) → DenL S us cs → Den S (.pointer (some ⟨b, o, none⟩)) (.eref cs)
  | map (r : Nat) (ents : Array MapEntry) (clock : Nat) (es : List (D × D)) : S.obj r = some (.map ents clock) → DenE S ents.toList es → Den S (.map (some r)) (.map es)
  | mapnil : Den S (.map none) (.map [])
  | iface (t : TypeId) (v : Value) (d : D) : Den S v d → Den S (.iface t v) (.iface t d)
  | junk (v : Value) : Den S v .junk
  | ptr (k o b n : Nat) : S.loc k = some (b, n) → Den S (.pointer (some ⟨b, o, none⟩)) (.ptr k o)
  | slr (k o n sz b m cap : Nat) (c : Option Nat) : S.loc k = some (b, m) → n ≤ cap → cap ≤ maxLen → o + cap * sz ≤ m → (c = none → o + cap * sz = m) → (∀ c', c = some c' → cap = c') →
      Den S (.slice (some ⟨b, o, none⟩) n cap) (.slr k o n sz c)
  | mapr (k b n : Nat) : S.loc k = some (b, n) → Den S (.map (some b)) (.mapr k)
  | yld (k b n : Nat) : S.loc k = some (b, n) → Den S (.func (.yield b) #[] #[]) (.yld k)
inductive DenL (S : Ctx) : List Value → List D → Prop
  | nil : DenL S [] []
  | cons (v : Value) (d : D) (vs : List Value) (ds : List D) : Den S v d → DenL S vs ds → DenL S (v :: vs) (d :: ds)
inductive DenE (S : Ctx) : List MapEntry → List (D × D) → Prop
  | nil : DenE S [] []
  | cons (e : MapEntry) (k d : D) (vs : List MapEntry) (ds : List (D × D)) : Den S e.key k → Den S e.val d → DenE S vs ds → DenE S (e :: vs) ((k, d) :: ds)
end

mutual
theorem Den.mono {S S' : Ctx} (h : S.le S') : ∀ {v : Value} {d : D}, Den S v d → Den S' v d
  | _, _, .val v h1 => .val v h1
  | _, _, .agg vs cs k => .agg vs cs (k.mono h)
  | _, _, .tup vs cs k => .tup vs cs (k.mono h)
  | _, _, .slnil z => .slnil z
  | _, _, .sl b o cap z sz es us hz hn hm hs hc h1 k => .sl b o cap z sz es us hz hn hm hs (fun i v hi => h.cell _ _ _ (hc i v hi)) h1 (k.mono h)
  | _, _, .sle b o cap hc => .sle b o cap hc
  | _, _, .fn f us vs fs caps j k => .fn f us vs fs caps (j.mono h) (k.mono h)
  | _, _, .eref b o us cs hc k => .eref b o us cs (fun i v hi => h.cell _ _ _ (hc i v hi)) (k.mono h)
  | _, _, .map r ents clock es ho k => .map r ents clock es (h.obj _ _ ho) (k.mono h)
  | _, _, .mapnil => .mapnil
  | _, _, .iface t v d k => .iface t v d (k.mono h)
  | _, _, .junk v => .junk v
  | _, _, .ptr k o b n hb => .ptr k o b n (h.loc _ _ hb)
  | _, _, .slr k o n sz b m cap c hb h1 h2 h3 h4 h5 => .slr k o n sz b m cap c (h.loc _ _ hb) h1 h2 h3 h4 h5
  | _, _, .mapr k b n hb => .mapr k b n (h.loc _ _ hb)
  | _, _, .yld k b n hb => .yld k b n (h.loc _ _ hb)
theorem DenL.mono {S S' : Ctx} (h : S.le S') : ∀ {vs : List Value} {ds : List D}, DenL S vs ds → DenL S' vs ds
  | _, _, .nil => .nil
  | _, _, .cons v d vs ds k l => .cons v d vs ds (k.mono h) (l.mono h)
theorem DenE.mono {S S' : Ctx} (h : S.le S') : ∀ {vs : List MapEntry} {ds : List (D × D)}, DenE S vs ds → DenE S' vs ds
  | _, _, .nil => .nil
  | _, _, .cons e k d vs ds hk hd l => .cons e k d vs ds (hk.mono h) (hd.mono h) (l.mono h)
end

/-- Memory that has at least these cells and maps, wherever the heap's blocks lie. -/
structure Ctx.lep (S S' : Ctx) : Prop where
  cell : ∀ b o v, S.cell b o = some v → S'.cell b o = some v
  obj : ∀ b o, S.obj b = some o → S'.obj b = some o
theorem Ctx.le.lep {S S' : Ctx} (h : S.le S') : S.lep S' := ⟨h.cell, h.obj⟩
theorem Ctx.lep.refl (S : Ctx) : S.lep S := ⟨fun _ _ _ h => h, fun _ _ h => h⟩
theorem Ctx.lep.trans {A B C : Ctx} (h : A.lep B) (k : B.lep C) : A.lep C := ⟨fun b o v x => k.cell b o v (h.cell b o v x), fun b o x => k.obj b o (h.obj b o x)⟩

theorem D.pureL_append : ∀ (l m : List D), D.pureL (l ++ m) = (D.pureL l && D.pureL m)
  | [], m => by simp [D.pureL]
  | d :: l, m => by simp [D.pureL, D.pureL_append l m, Bool.and_assoc]
theorem D.pureL_mem {l : List D} (h : D.pureL l = true) : ∀ d, d ∈ l → d.pure = true := by
  induction l with
  | nil => intro d hd; cases hd
  | cons e l ih =>
    simp only [D.pureL, Bool.and_eq_true] at h
    intro d hd
    rcases List.mem_cons.1 hd with rfl | hd
    · exact h.1
    · exact ih h.2 d hd
theorem D.pureL_of {l : List D} (h : ∀ d, d ∈ l → d.pure = true) : D.pureL l = true := by
  induction l with
  | nil => rfl
  | cons e l ih => simp only [D.pureL, Bool.and_eq_true]; exact ⟨h e (by simp), ih fun d hd => h d (by simp [hd])⟩
theorem D.pure_cells {d : D} (h : d.pure = true) : D.pureL d.cells = true := by
  cases d <;> simp_all [D.cells, D.pureL, D.pure]
theorem D.pureL_cells {l : List D} (h : D.pureL l = true) : D.pureL (l.flatMap D.cells) = true := by
  induction l with
  | nil => rfl
  | cons e l ih =>
    simp only [D.pureL, Bool.and_eq_true] at h
    rw [List.flatMap_cons, D.pureL_append, D.pure_cells h.1, ih h.2]; rfl

mutual
theorem Den.move {S S' : Ctx} (h : S.lep S') : ∀ {v : Value} {d : D}, Den S v d → d.pure = true → Den S' v d
  | _, _, .val v h1, _ => .val v h1
  | _, _, .agg vs cs k, p => .agg vs cs (k.move h p)
  | _, _, .tup vs cs k, p => .tup vs cs (k.move h p)
  | _, _, .slnil z, _ => .slnil z
  | _, _, .sl b o cap z sz es us hz hn hm hs hc h1 k, p => .sl b o cap z sz es us hz hn hm hs (fun i v hi => h.cell _ _ _ (hc i v hi)) h1 (k.move h (D.pureL_cells p))
  | _, _, .sle b o cap hc, _ => .sle b o cap hc
  | _, _, .fn f us vs fs caps j k, p => by
    simp only [D.pure, Bool.and_eq_true] at p
    exact .fn f us vs fs caps (j.move h p.1) (k.move h p.2)
  | _, _, .eref b o us cs hc k, p => .eref b o us cs (fun i v hi => h.cell _ _ _ (hc i v hi)) (k.move h p)
  | _, _, .map r ents clock es ho k, p => .map r ents clock es (h.obj _ _ ho) (k.move h p)
  | _, _, .mapnil, _ => .mapnil
  | _, _, .iface t v d k, p => .iface t v d (k.move h p)
  | _, _, .junk v, _ => .junk v
  | _, _, .ptr k o b n hb, p => by simp [D.pure] at p
  | _, _, .slr k o n sz b m cap c hb h1 h2 h3 h4 h5, p => by simp [D.pure] at p
  | _, _, .mapr k b n hb, p => by simp [D.pure] at p
  | _, _, .yld k b n hb, p => by simp [D.pure] at p
theorem DenL.move {S S' : Ctx} (h : S.lep S') : ∀ {vs : List Value} {ds : List D}, DenL S vs ds → D.pureL ds = true → DenL S' vs ds
  | _, _, .nil, _ => .nil
  | _, _, .cons v d vs ds k l, p => by
    simp only [D.pureL, Bool.and_eq_true] at p
    exact .cons v d vs ds (k.move h p.1) (l.move h p.2)
theorem DenE.move {S S' : Ctx} (h : S.lep S') : ∀ {vs : List MapEntry} {ds : List (D × D)}, DenE S vs ds → D.pureE ds = true → DenE S' vs ds
  | _, _, .nil, _ => .nil
  | _, _, .cons e k d vs ds hk hd l, p => by
    simp only [D.pureE, Bool.and_eq_true] at p
    exact .cons e k d vs ds (hk.move h p.1.1) (hd.move h p.1.2) (l.move h p.2)
end

mutual
theorem Den.any {S S' : Ctx} : ∀ {v : Value} {d : D}, Den S v d → d.flat = true → Den S' v d
  | _, _, .val v h1, _ => .val v h1
  | _, _, .agg vs cs k, p => .agg vs cs (k.any p)
  | _, _, .tup vs cs k, p => .tup vs cs (k.any p)
  | _, _, .slnil z, _ => .slnil z
  | _, _, .sl b o cap z sz es us hz hn hm hs hc h1 k, p => by
    simp only [D.flat, List.isEmpty_iff] at p
    subst p
    cases us with
    | nil => exact .sl b o cap z sz [] [] hz hn hm hs (fun i v hi => by simp at hi) h1 .nil
    | cons => simp only [List.flatMap_nil] at k; cases k
  | _, _, .sle b o cap hc, _ => .sle b o cap hc
  | _, _, .fn f us vs fs caps j k, p => by
    simp only [D.flat, Bool.and_eq_true] at p
    exact .fn f us vs fs caps (j.any p.1) (k.any p.2)
  | _, _, .eref b o us cs hc k, p => by
    simp only [D.flat, List.isEmpty_iff] at p
    subst p
    cases us with
    | nil => exact .eref b o [] [] (fun i v hi => by simp at hi) .nil
    | cons => cases k
  | _, _, .map r ents clock es ho k, p => by simp [D.flat] at p
  | _, _, .mapnil, p => .mapnil
  | _, _, .iface t v d k, p => .iface t v d (k.any p)
  | _, _, .junk v, _ => .junk v
  | _, _, .ptr k o b n hb, p => by simp [D.flat] at p
  | _, _, .slr k o n sz b m cap c hb h1 h2 h3 h4 h5, p => by simp [D.flat] at p
  | _, _, .mapr k b n hb, p => by simp [D.flat] at p
  | _, _, .yld k b n hb, p => by simp [D.flat] at p
theorem DenL.any {S S' : Ctx} : ∀ {vs : List Value} {ds : List D}, DenL S vs ds → D.flatL ds = true → DenL S' vs ds
  | _, _, .nil, _ => .nil
  | _, _, .cons v d vs ds k l, p => by
    simp only [D.flatL, Bool.and_eq_true] at p
    exact .cons v d vs ds (k.any p.1) (l.any p.2)
end

theorem Den.one {S : Ctx} {v : Value} {d : D} (h : Den S v d) (hd : d.one = true) : v.oneCell' = true := by
  cases h with
  | val v h1 => exact h1
  | _ => simp_all [D.one, Value.oneCell']
theorem Den.cells {S : Ctx} {v : Value} {d : D} (h : Den S v d) (hd : d.cells.all D.one = true) : DenL S v.cells.toList d.cells ∧ v.cells.all (·.oneCell') = true := by
  have key : ∀ {vs : List Value} {ds : List D}, DenL S vs ds → ds.all D.one = true → vs.all (·.oneCell') = true := by
    intro vs
    induction vs with
    | nil => intro ds _ _; rfl
    | cons v vs ih =>
      intro ds h hd
      cases h with
      | cons _ d _ ds k l =>
        simp only [List.all_cons, Bool.and_eq_true] at hd ⊢
        exact ⟨k.one hd.1, ih l hd.2⟩
  have single : d.cells = [d] → DenL S v.cells.toList d.cells ∧ v.cells.all (·.oneCell') = true := fun hc => by
    rw [hc] at hd ⊢
    have h1 : v.oneCell' = true := h.one (by simpa using hd)
    have h2 : v.cells = #[v] := by cases v <;> simp_all [Value.cells, Value.oneCell']
    rw [h2]
    exact ⟨.cons _ _ _ _ h .nil, by simp [h1]⟩
  cases d with
  | agg cs =>
    cases h with
    | agg vs _ k => exact ⟨by simpa [Value.cells, D.cells] using k, by have := key k hd; simpa [Value.cells, ← Array.all_toList] using this⟩
  | _ => exact single rfl

namespace DenL
variable {S : Ctx}
theorem one {vs : List Value} {ds : List D} (h : DenL S vs ds) (hd : ds.all D.one = true) : vs.all (·.oneCell') = true := by
  induction vs generalizing ds with
  | nil => rfl
  | cons v vs ih =>
    cases h with
    | cons _ d _ ds k l =>
      simp only [List.all_cons, Bool.and_eq_true] at hd ⊢
      exact ⟨k.one hd.1, ih l hd.2⟩
theorem length {vs : List Value} {ds : List D} (h : DenL S vs ds) : vs.length = ds.length := by
  induction vs generalizing ds with
  | nil => cases h; rfl
  | cons v vs ih => cases h with | cons _ _ _ _ _ k => simp [ih k]
theorem get {vs : List Value} {ds : List D} (h : DenL S vs ds) {i : Nat} {d : D} (hd : ds[i]? = some d) : ∃ v, vs[i]? = some v ∧ Den S v d := by
  induction vs generalizing ds i with
  | nil => cases h; simp at hd
  | cons v vs ih =>
    cases h with
    | cons _ e _ es k l =>
      cases i with
      | zero => simp at hd; subst hd; exact ⟨v, rfl, k⟩
      | succ i => simpa using ih l (by simpa using hd)
theorem append {vs us : List Value} {ds es : List D} (h : DenL S vs ds) (k : DenL S us es) : DenL S (vs ++ us) (ds ++ es) := by
  induction vs generalizing ds with
  | nil => cases h; simpa using k
  | cons v vs ih => cases h with | cons _ _ _ _ a l => exact .cons _ _ _ _ a (ih l)
theorem take {vs : List Value} {ds : List D} (h : DenL S vs ds) (n : Nat) : DenL S (vs.take n) (ds.take n) := by
  induction vs generalizing ds n with
  | nil => cases h; simpa using DenL.nil
  | cons v vs ih =>
    cases h with
    | cons _ _ _ _ a l =>
      cases n with
      | zero => simpa using DenL.nil
      | succ n => simpa using DenL.cons _ _ _ _ a (ih l n)
theorem drop {vs : List Value} {ds : List D} (h : DenL S vs ds) (n : Nat) : DenL S (vs.drop n) (ds.drop n) := by
  induction vs generalizing ds n with
  | nil => cases h; simpa using DenL.nil
  | cons v vs ih =>
    cases h with
    | cons _ _ _ _ a l =>
      cases n with
      | zero => simpa using DenL.cons _ _ _ _ a l
      | succ n => simpa using ih l n
theorem set {vs : List Value} {ds : List D} (h : DenL S vs ds) (i : Nat) {v : Value} {d : D} (k : Den S v d) : DenL S (vs.set i v) (ds.set i d) := by
  induction vs generalizing ds i with
  | nil => cases h; simpa using DenL.nil
  | cons u vs ih =>
    cases h with
    | cons _ _ _ _ a l =>
      cases i with
      | zero => simpa using DenL.cons _ _ _ _ k l
      | succ i => simpa using DenL.cons _ _ _ _ a (ih l i)
theorem of_get {vs : List Value} {ds : List D} (hl : vs.length = ds.length) (h : ∀ (i : Nat) (v : Value) (d : D), vs[i]? = some v → ds[i]? = some d → Den S v d) : DenL S vs ds := by
  induction vs generalizing ds with
  | nil => cases ds with | nil => exact .nil | cons => simp at hl
  | cons v vs ih =>
    cases ds with
    | nil => simp at hl
    | cons d ds => exact .cons _ _ _ _ (h 0 v d rfl rfl) (ih (by simpa using hl) fun i u e hu he => h (i + 1) u e (by simpa using hu) (by simpa using he))
end DenL

theorem vals_den {K : Ctx} : ∀ {l : List Value}, l.all (·.oneCell') = true → DenL K l (l.map .val)
  | [], _ => .nil
  | v :: l, h => by
    simp only [List.all_cons, Bool.and_eq_true] at h
    exact .cons _ _ _ _ (.val _ h.1) (vals_den h.2)
end Go.Em
