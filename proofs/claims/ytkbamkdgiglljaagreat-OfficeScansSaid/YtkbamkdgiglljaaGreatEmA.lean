/- What Go values stand for: trees for memory that no one changes any more, references into a heap of numbered blocks for the rest. -/
import Derived.WalkKit
import Derived.OwnWalkIn
import Derived.RangeFuncCalls
namespace Go.Em
open Go Go.RowKit

inductive D where
  | val (v : Value)
  | agg (cs : List D)
  | tup (cs : List D)
  | sl (z : Bool) (es : List D)
  | sle
  | fn (f : Fn) (fs caps : List D)
  | eref (cs : List D)
  | map (es : List (D × D))
  | iface (t : TypeId) (d : D)
  | junk
  | ptr (k o : Nat)
  | slr (k o n sz : Nat) (c : Option Nat)
  | mapr (k : Nat)
  | yld (k : Nat)

namespace D
abbrev int (n : Int) : D := .val (.int .i64 n)
abbrev bool (b : Bool) : D := .val (.bool b)
def cells : D → List D
  | .agg cs => cs
  | d => [d]
def one : D → Bool
  | .agg _ | .tup _ | .junk => false
  | _ => true
mutual
def pure : D → Bool
  | .val _ | .junk | .sle => true
  | .agg cs | .tup cs | .eref cs | .sl _ cs => pureL cs
  | .fn _ fs cs => pureL fs && pureL cs
  | .map es => pureE es
  | .iface _ d => d.pure
  | .ptr .. | .slr .. | .mapr _ | .yld _ => false
def pureL : List D → Bool
  | [] => true
  | d :: l => d.pure && pureL l
def pureE : List (D × D) → Bool
  | [] => true
  | (k, v) :: l => k.pure && v.pure && pureE l
end
mutual
def flat : D → Bool
  | .val _ | .junk | .sle => true
  | .agg cs | .tup cs => flatL cs
  | .fn _ fs cs => flatL fs && flatL cs
  | .iface _ d => d.flat
  | .sl _ es => es.isEmpty
  | .eref cs => cs.isEmpty
  | .map _ | .ptr .. | .slr .. | .mapr _ | .yld _ => false
def flatL : List D → Bool
  | [] => true
  | d :: l => d.flat && flatL l
end
end D

structure Ctx where
  cell : Nat → Nat → Option Value
  obj : Nat → Option Obj
  loc : Nat → Option (Nat × Nat)

structure Ctx.le (S S' : Ctx) : Prop where
  cell : ∀ b o v, S.cell b o = some v → S'.cell b o = some v
  obj : ∀ b o, S.obj b = some o → S'.obj b = some o
  loc : ∀ k p, S.loc k = some p → S'.loc k = some p
theorem Ctx.le.refl (S : Ctx) : S.le S := ⟨fun _ _ _ h => h, fun _ _ h => h, fun _ _ h => h⟩
theorem Ctx.le.trans {A B C : Ctx} (h : A.le B) (k : B.le C) : A.le C :=
  ⟨fun b o v x => k.cell b o v (h.cell b o v x), fun b o x => k.obj b o (h.obj b o x), fun b o x => k.loc b o (h.loc b o x)⟩

mutual
inductive Den (S : Ctx) : Value → D → Prop
  | val (v : Value) : v.oneCell' = true → Den S v (.val v)
  | agg (vs : List Value) (cs : List D) : DenL S vs cs → Den S (.agg vs.toArray) (.agg cs)
  | tup (vs : List Value) (cs : List D) : DenL S vs cs → Den S (.tuple vs.toArray) (.tup cs)
  | slnil (z : Bool) : Den S (.slice none 0 0) (.sl z [])
  | sl (b o cap : Nat) (z : Bool) (sz : Nat) (es : List D) (us : List Value) : (z = true → cap = es.length) → es.length ≤ cap → cap ≤ maxLen →
      (∀ e, e ∈ es → e.cells.length = sz) → (∀ i v, us[i]? = some v → S.cell b (o + i) = some v) → us.all (·.oneCell') = true → DenL S us (es.flatMap D.cells) →
      Den S (.slice (some ⟨b, o, none⟩) es.length cap) (.sl z es)
  | slw (a : Addr) (cap : Nat) (z : Bool) : (z = true → cap = 0) → cap ≤ maxLen → Den S (.slice (some a) 0 cap) (.sl z [])
  | sle (a : Addr) (cap : Nat) : cap ≤ maxLen → Den S (.slice (some a) 0 cap) .sle
  | fn (f : Fn) (us vs : List Value) (fs caps : List D) : DenL S us fs → DenL S vs caps → Den S (.func f us.toArray vs.toArray) (.fn f fs caps)
  | eref (b o : Nat) (us : List Value) (cs : List D) : (∀ i v, us[i]? = some v → S.cell b (o + i) = some v) → DenL S us cs → Den S (.pointer (some ⟨b, o, none⟩)) (.eref cs)
  | map (r : Nat) (ents : Array MapEntry) (clock : Nat) (es : List (D × D)) : S.obj r = some (.map ents clock) → DenE S ents.toList es → Den S (.map (some r)) (.map es)
  | mapnil : Den S (.map none) (.map [])
  | iface (t : TypeId) (v : Value) (d : D) : Den S v d → Den S (.iface t v) (.iface t d)
  | junk (v : Value) : Den S v .junk
  | ptr (k o b n : Nat) : S.loc k = some (b, n) → Den S (.pointer (some ⟨b, o, none⟩)) (.ptr k o)
  | slr (k o n sz b m cap : Nat) (c : Option Nat) : S.loc k = some (b, m) → n ≤ cap → cap ≤ maxLen → o + cap * sz ≤ m → (c = none → o + cap * sz = m) → (∀ c', c = some c' → cap = c') →
      Den S (.slice (some ⟨b, o, none⟩) n cap) (.slr k o n sz c)
  | mapr (k b n : Nat) : S.loc k = some (b, n) → Den S (.map (some b)) (.mapr k)
  | yld (k b n : Nat) : S.loc k = some (b, n) → Den S (.func (.yield b) #[] #[]) (.yld k)
inductive DenL (S : Ctx) : List Value → List D → Prop
  | nil : DenL S [] []
  | cons (v : Value) (d : D) (vs : List Value) (ds : List D) : Den S v d → DenL S vs ds → DenL S (v :: vs) (d :: ds)
inductive DenE (S : Ctx) : List MapEntry → List (D × D) → Prop
  | nil : DenE S [] []
  | cons (e : MapEntry) (k d : D) (vs : List MapEntry) (ds : List (D × D)) : Den S e.key k → Den S e.val d → DenE S vs ds → DenE S (e :: vs) ((k, d) :: ds)
end

mutual
theorem Den.mono {S S' : Ctx} (h : S.le S') : ∀ {v : Value} {d : D}, Den S v d → Den S' v d
  | _, _, .val v h1 => .val v h1
  | _, _, .agg vs cs k => .agg vs cs (k.mono h)
  | _, _, .tup vs cs k => .tup vs cs (k.mono h)
  | _, _, .slnil z => .slnil z
  | _, _, .sl b o cap z sz es us hz hn hm hs hc h1 k => .sl b o cap z sz es us hz hn hm hs (fun i v hi => h.cell _ _ _ (hc i v hi)) h1 (k.mono h)
  | _, _, .slw a cap z hz hc => .slw a cap z hz hc
  | _, _, .sle a cap hc => .sle a cap hc
  | _, _, .fn f us vs fs caps j k => .fn f us vs fs caps (j.mono h) (k.mono h)
  | _, _, .eref b o us cs hc k => .eref b o us cs (fun i v hi => h.cell _ _ _ (hc i v hi)) (k.mono h)
  | _, _, .map r ents clock es ho k => .map r ents clock es (h.obj _ _ ho) (k.mono h)
  | _, _, .mapnil => .mapnil
  | _, _, .iface t v d k => .iface t v d (k.mono h)
  | _, _, .junk v => .junk v
  | _, _, .ptr k o b n hb => .ptr k o b n (h.loc _ _ hb)
  | _, _, .slr k o n sz b m cap c hb h1 h2 h3 h4 h5 => .slr k o n sz b m cap c (h.loc _ _ hb) h1 h2 h3 h4 h5
  | _, _, .mapr k b n hb => .mapr k b n (h.loc _ _ hb)
  | _, _, .yld k b n hb => .yld k b n (h.loc _ _ hb)
theorem DenL.mono {S S' : Ctx} (h : S.le S') : ∀ {vs : List Value} {ds : List D}, DenL S vs ds → DenL S' vs ds
  | _, _, .nil => .nil
  | _, _, .cons v d vs ds k l => .cons v d vs ds (k.mono h) (l.mono h)
theorem DenE.mono {S S' : Ctx} (h : S.le S') : ∀ {vs : List MapEntry} {ds : List (D × D)}, DenE S vs ds → DenE S' vs ds
  | _, _, .nil => .nil
  | _, _, .cons e k d vs ds hk hd l => .cons e k d vs ds (hk.mono h) (hd.mono h) (l.mono h)
end

structure Ctx.lep (S S' : Ctx) : Prop where
  cell : ∀ b o v, S.cell b o = some v → S'.cell b o = some v
  obj : ∀ b o, S.obj b = some o → S'.obj b = some o
theorem Ctx.le.lep {S S' : Ctx} (h : S.le S') : S.lep S' := ⟨h.cell, h.obj⟩
theorem Ctx.lep.refl (S : Ctx) : S.lep S := ⟨fun _ _ _ h => h, fun _ _ h => h⟩
theorem Ctx.lep.trans {A B C : Ctx} (h : A.lep B) (k : B.lep C) : A.lep C := ⟨fun b o v x => k.cell b o v (h.cell b o v x), fun b o x => k.obj b o (h.obj b o x)⟩

theorem D.pureL_append : ∀ (l m : List D), D.pureL (l ++ m) = (D.pureL l && D.pureL m)
  | [], m => by simp [D.pureL]
  | d :: l, m => by simp [D.pureL, D.pureL_append l m, Bool.and_assoc]
theorem D.pureL_mem {l : List D} (h : D.pureL l = true) : ∀ d, d ∈ l → d.pure = true := by
  induction l with
  | nil => intro d hd; cases hd
  | cons e l ih =>
    simp only [D.pureL, Bool.and_eq_true] at h
    intro d hd
    rcases List.mem_cons.1 hd with rfl | hd
    · exact h.1
    · exact ih h.2 d hd
theorem D.pureL_of {l : List D} (h : ∀ d, d ∈ l → d.pure = true) : D.pureL l = true := by
  induction l with
  | nil => rfl
  | cons e l ih => simp only [D.pureL, Bool.and_eq_true]; exact ⟨h e (by simp), ih fun d hd => h d (by simp [hd])⟩
theorem D.pure_cells {d : D} (h : d.pure = true) : D.pureL d.cells = true := by
  cases d <;> simp_all [D.cells, D.pureL, D.pure]
theorem D.pureL_cells {l : List D} (h : D.pureL l = true) : D.pureL (l.flatMap D.cells) = true := by
  induction l with
  | nil => rfl
  | cons e l ih =>
    simp only [D.pureL, Bool.and_eq_true] at h
    rw [List.flatMap_cons, D.pureL_append, D.pure_cells h.1, ih h.2]; rfl

mutual
theorem Den.move {S S' : Ctx} (h : S.lep S') : ∀ {v : Value} {d : D}, Den S v d → d.pure = true → Den S' v d
  | _, _, .val v h1, _ => .val v h1
  | _, _, .agg vs cs k, p => .agg vs cs (k.move h p)
  | _, _, .tup vs cs k, p => .tup vs cs (k.move h p)
  | _, _, .slnil z, _ => .slnil z
  | _, _, .sl b o cap z sz es us hz hn hm hs hc h1 k, p => .sl b o cap z sz es us hz hn hm hs (fun i v hi => h.cell _ _ _ (hc i v hi)) h1 (k.move h (D.pureL_cells p))
  | _, _, .slw a cap z hz hc, _ => .slw a cap z hz hc
  | _, _, .sle a cap hc, _ => .sle a cap hc
  | _, _, .fn f us vs fs caps j k, p => by
    simp only [D.pure, Bool.and_eq_true] at p
    exact .fn f us vs fs caps (j.move h p.1) (k.move h p.2)
  | _, _, .eref b o us cs hc k, p => .eref b o us cs (fun i v hi => h.cell _ _ _ (hc i v hi)) (k.move h p)
  | _, _, .map r ents clock es ho k, p => .map r ents clock es (h.obj _ _ ho) (k.move h p)
  | _, _, .mapnil, _ => .mapnil
  | _, _, .iface t v d k, p => .iface t v d (k.move h p)
  | _, _, .junk v, _ => .junk v
  | _, _, .ptr k o b n hb, p => by simp [D.pure] at p
  | _, _, .slr k o n sz b m cap c hb h1 h2 h3 h4 h5, p => by simp [D.pure] at p
  | _, _, .mapr k b n hb, p => by simp [D.pure] at p
  | _, _, .yld k b n hb, p => by simp [D.pure] at p
theorem DenL.move {S S' : Ctx} (h : S.lep S') : ∀ {vs : List Value} {ds : List D}, DenL S vs ds → D.pureL ds = true → DenL S' vs ds
  | _, _, .nil, _ => .nil
  | _, _, .cons v d vs ds k l, p => by
    simp only [D.pureL, Bool.and_eq_true] at p
    exact .cons v d vs ds (k.move h p.1) (l.move h p.2)
theorem DenE.move {S S' : Ctx} (h : S.lep S') : ∀ {vs : List MapEntry} {ds : List (D × D)}, DenE S vs ds → D.pureE ds = true → DenE S' vs ds
  | _, _, .nil, _ => .nil
  | _, _, .cons e k d vs ds hk hd l, p => by
    simp only [D.pureE, Bool.and_eq_true] at p
    exact .cons e k d vs ds (hk.move h p.1.1) (hd.move h p.1.2) (l.move h p.2)
end

mutual
theorem Den.any {S S' : Ctx} : ∀ {v : Value} {d : D}, Den S v d → d.flat = true → Den S' v d
  | _, _, .val v h1, _ => .val v h1
  | _, _, .agg vs cs k, p => .agg vs cs (k.any p)
  | _, _, .tup vs cs k, p => .tup vs cs (k.any p)
  | _, _, .slnil z, _ => .slnil z
  | _, _, .sl b o cap z sz es us hz hn hm hs hc h1 k, p => by
    simp only [D.flat, List.isEmpty_iff] at p
    subst p
    cases us with
    | nil => exact .sl b o cap z sz [] [] hz hn hm hs (fun i v hi => by simp at hi) h1 .nil
    | cons => simp only [List.flatMap_nil] at k; cases k
  | _, _, .slw a cap z hz hc, _ => .slw a cap z hz hc
  | _, _, .sle a cap hc, _ => .sle a cap hc
  | _, _, .fn f us vs fs caps j k, p => by
    simp only [D.flat, Bool.and_eq_true] at p
    exact .fn f us vs fs caps (j.any p.1) (k.any p.2)
  | _, _, .eref b o us cs hc k, p => by
    simp only [D.flat, List.isEmpty_iff] at p
    subst p
    cases us with
    | nil => exact .eref b o [] [] (fun i v hi => by simp at hi) .nil
    | cons => cases k
  | _, _, .map r ents clock es ho k, p => by simp [D.flat] at p
  | _, _, .mapnil, p => .mapnil
  | _, _, .iface t v d k, p => .iface t v d (k.any p)
  | _, _, .junk v, _ => .junk v
  | _, _, .ptr k o b n hb, p => by simp [D.flat] at p
  | _, _, .slr k o n sz b m cap c hb h1 h2 h3 h4 h5, p => by simp [D.flat] at p
  | _, _, .mapr k b n hb, p => by simp [D.flat] at p
  | _, _, .yld k b n hb, p => by simp [D.flat] at p
theorem DenL.any {S S' : Ctx} : ∀ {vs : List Value} {ds : List D}, DenL S vs ds → D.flatL ds = true → DenL S' vs ds
  | _, _, .nil, _ => .nil
  | _, _, .cons v d vs ds k l, p => by
    simp only [D.flatL, Bool.and_eq_true] at p
    exact .cons v d vs ds (k.any p.1) (l.any p.2)
end

theorem Den.one {S : Ctx} {v : Value} {d : D} (h : Den S v d) (hd : d.one = true) : v.oneCell' = true := by
  cases h with
  | val v h1 => exact h1
  | _ => simp_all [D.one, Value.oneCell']
theorem Den.cells {S : Ctx} {v : Value} {d : D} (h : Den S v d) (hd : d.cells.all D.one = true) : DenL S v.cells.toList d.cells ∧ v.cells.all (·.oneCell') = true := by
  have key : ∀ {vs : List Value} {ds : List D}, DenL S vs ds → ds.all D.one = true → vs.all (·.oneCell') = true := by
    intro vs
    induction vs with
    | nil => intro ds _ _; rfl
    | cons v vs ih =>
      intro ds h hd
      cases h with
      | cons _ d _ ds k l =>
        simp only [List.all_cons, Bool.and_eq_true] at hd ⊢
        exact ⟨k.one hd.1, ih l hd.2⟩
  have single : d.cells = [d] → DenL S v.cells.toList d.cells ∧ v.cells.all (·.oneCell') = true := fun hc => by
    rw [hc] at hd ⊢
    have h1 : v.oneCell' = true := h.one (by simpa using hd)
    have h2 : v.cells = #[v] := by cases v <;> simp_all [Value.cells, Value.oneCell']
    rw [h2]
    exact ⟨.cons _ _ _ _ h .nil, by simp [h1]⟩
  cases d with
  | agg cs =>
    cases h with
    | agg vs _ k => exact ⟨by simpa [Value.cells, D.cells] using k, by have := key k hd; simpa [Value.cells, ← Array.all_toList] using this⟩
  | _ => exact single rfl

namespace DenL
variable {S : Ctx}
theorem one {vs : List Value} {ds : List D} (h : DenL S vs ds) (hd : ds.all D.one = true) : vs.all (·.oneCell') = true := by
  induction vs generalizing ds with
  | nil => rfl
  | cons v vs ih =>
    cases h with
    | cons _ d _ ds k l =>
      simp only [List.all_cons, Bool.and_eq_true] at hd ⊢
      exact ⟨k.one hd.1, ih l hd.2⟩
theorem length {vs : List Value} {ds : List D} (h : DenL S vs ds) : vs.length = ds.length := by
  induction vs generalizing ds with
  | nil => cases h; rfl
  | cons v vs ih => cases h with | cons _ _ _ _ _ k => simp [ih k]
theorem get {vs : List Value} {ds : List D} (h : DenL S vs ds) {i : Nat} {d : D} (hd : ds[i]? = some d) : ∃ v, vs[i]? = some v ∧ Den S v d := by
  induction vs generalizing ds i with
  | nil => cases h; simp at hd
  | cons v vs ih =>
    cases h with
    | cons _ e _ es k l =>
      cases i with
      | zero => simp at hd; subst hd; exact ⟨v, rfl, k⟩
      | succ i => simpa using ih l (by simpa using hd)
theorem append {vs us : List Value} {ds es : List D} (h : DenL S vs ds) (k : DenL S us es) : DenL S (vs ++ us) (ds ++ es) := by
  induction vs generalizing ds with
  | nil => cases h; simpa using k
  | cons v vs ih => cases h with | cons _ _ _ _ a l => exact .cons _ _ _ _ a (ih l)
theorem take {vs : List Value} {ds : List D} (h : DenL S vs ds) (n : Nat) : DenL S (vs.take n) (ds.take n) := by
  induction vs generalizing ds n with
  | nil => cases h; simpa using DenL.nil
  | cons v vs ih =>
    cases h with
    | cons _ _ _ _ a l =>
      cases n with
      | zero => simpa using DenL.nil
      | succ n => simpa using DenL.cons _ _ _ _ a (ih l n)
theorem drop {vs : List Value} {ds : List D} (h : DenL S vs ds) (n : Nat) : DenL S (vs.drop n) (ds.drop n) := by
  induction vs generalizing ds n with
  | nil => cases h; simpa using DenL.nil
  | cons v vs ih =>
    cases h with
    | cons _ _ _ _ a l =>
      cases n with
      | zero => simpa using DenL.cons _ _ _ _ a l
      | succ n => simpa using ih l n
theorem set {vs : List Value} {ds : List D} (h : DenL S vs ds) (i : Nat) {v : Value} {d : D} (k : Den S v d) : DenL S (vs.set i v) (ds.set i d) := by
  induction vs generalizing ds i with
  | nil => cases h; simpa using DenL.nil
  | cons u vs ih =>
    cases h with
    | cons _ _ _ _ a l =>
      cases i with
      | zero => simpa using DenL.cons _ _ _ _ k l
      | succ i => simpa using DenL.cons _ _ _ _ a (ih l i)
theorem of_get {vs : List Value} {ds : List D} (hl : vs.length = ds.length) (h : ∀ (i : Nat) (v : Value) (d : D), vs[i]? = some v → ds[i]? = some d → Den S v d) : DenL S vs ds := by
  induction vs generalizing ds with
  | nil => cases ds with | nil => exact .nil | cons => simp at hl
  | cons v vs ih =>
    cases ds with
    | nil => simp at hl
    | cons d ds => exact .cons _ _ _ _ (h 0 v d rfl rfl) (ih (by simpa using hl) fun i u e hu he => h (i + 1) u e (by simpa using hu) (by simpa using he))
end DenL

theorem vals_den {K : Ctx} : ∀ {l : List Value}, l.all (·.oneCell') = true → DenL K l (l.map .val)
  | [], _ => .nil
  | v :: l, h => by
    simp only [List.all_cons, Bool.and_eq_true] at h
    exact .cons _ _ _ _ (.val _ h.1) (vals_den h.2)
end Go.Em
/- The heap of a running call, its small code, and what that code does. -/
namespace Go.Em
open Go Go.RowKit

inductive X where
  | s (n : Nat)
  | c (v : Value)
  | f (f : FuncId)
  | g (n : Nat)

inductive CK where
  | int
  | str
  | bool
inductive NK where
  | iface
  | slice
  | ptr
  | map
  | func
inductive EqK where
  | bool
  | nil (k : NK)
  | cells (ks : List CK)

inductive M where
  | mv (x : X)
  | pick (c x y : X)
  | bin (op : BinOp) (x y : X)
  | eq (neg : Bool) (k : EqK) (x y : X)
  | not (x : X)
  | neg (x : X)
  | cvi (k : IntKind) (x : X)
  | alloc (t : TypeId) (z : List Value)
  | box (t : TypeId) (n : Nat) (x : X)
  | ld (ag : Bool) (n : Nat) (x : X)
  | ldv (ag : Bool) (n : Nat) (x : X)
  | st (n : Nat) (x y : X)
  | nc (x : X)
  | fa (x : X) (off : Nat)
  | iaa (m sz : Nat) (x i : X)
  | ias (sz : Nat) (x i : X)
  | fd (ag : Bool) (n off : Nat) (x : X)
  | ixs (x i : X)
  | ex (x : X) (i : Nat)
  | len (x : X)
  | lens (x : X)
  | cap (x : X)
  | app (et sz bytes : Nat) (x y : X)
  | apl (et sz bytes : Nat) (x y : X)
  | apps (et bytes : Nat) (x y : X)
  | apz (et sz bytes : Nat) (z : List Value) (x y : X)
  | cpy (sz : Nat) (x y : X)
  | clr (z : List Value) (x : X)
  | bs (et sz n : Nat) (z : List Value) (ps : List (Nat × X))
  | bst (et sz n : Nat) (z : List Value) (ps : List (Nat × X))
  | bld (z : List Value) (ps : List (Nat × Nat × X))
  | mks (et sz bytes : Nat) (z : List Value) (l c : X)
  | slc (sz : Nat) (x : X) (lo hi mx : Option X)
  | sls (x : X) (lo hi : Option X)
  | sla (m sz : Nat) (x : X) (lo hi mx : Option X)
  | mkf (f : Fn) (fs caps : List X)
  | mm (mx : Bool) (x y : X)
  | mkm
  | mkmc (x : X)
  | upd (ck : CK) (x k v : X)
  | lk (ck : CK) (z : Value) (ok : Bool) (x k : X)
  | rng (x : X)
  | nxt (x : X)
  | mki (t : TypeId) (x : X)
  | ta (t : TypeId) (z : Value) (x : X)
  | s2b (et : Nat) (x : X)
  | b2s (x : X)
  | cpl (x : X)
  | ixa (ag : Bool) (sz m : Nat) (x i : X)
  | usd (x : X)
  | ust (x n : X)
  | cbs (x : X)

inductive Cl where
  | fn (f : FuncId) (args : List X)
  | val (gd : Bool) (x : X) (args : List X)
  | dfr (x : X) (args : List X)
  | pan (x : X)
  | rcv
  | ixb (f : FuncId) (args : List X)

structure G where
  g : Option (Nat × Bool)
  d : Option Nat
  o : M ⊕ Cl

inductive HK where
  | fr (s : Nat)
  | at (s : Nat)
  | keep (s : Nat)
  | av (s : Nat)
deriving DecidableEq
structure DG where
  g : G
  ts : Option (List HK)
  hs : List HK
  wt : Nat := 0
  pn : Bool := false

inductive Cd where
  | skip
  | region (ops : List G)
  | draw (ops : List DG)
  | seq (a b : Cd)
  | cond (x : X) (a b : Cd)
  | block (id : Nat) (c : Cd)
  | loop (c : Cd)
  | scope (c : Cd)
  | exit (id : Nat)
  | ret
  | rangeF (x : X) (ps : List Nat) (assign body : Cd)

inductive Ex where
  | normal
  | exit (id : Nat)
  | ret
  | pan (d : D)
def Ex.code : Ex → Option Code
  | .exit id => some (.exit id)
  | .ret => some .ret
  | _ => none

structure Lp where
  e : List D
  ps : List Nat
  as : Cd
  bd : Cd
  dn : Nat
  st : LoopState
  pe : Ex

inductive Blk where
  | cells (ty : TypeId) (cs : List D)
  | map (es : List (D × D))
  | iter (s : ByteArray) (pos : Nat)
  | mark
  | loop (l : Lp)
  | par (ty : TypeId) (cs : List D) (t : Nat)
  | kid (ty : TypeId) (cs : List D) (k : Nat)

structure Heap where
  l : List (Nat × Option Blk)
  next : Nat
  z : List (Nat × List D)

namespace Heap
def look (k : Nat) : List (Nat × Option Blk) → Option (Option Blk)
  | [] => none
  | (j, b) :: l => if k = j then some b else if k < j then none else look k l
def ins (k : Nat) (b : Option Blk) : List (Nat × Option Blk) → List (Nat × Option Blk)
  | [] => [(k, b)]
  | (j, c) :: l => if k = j then (k, b) :: l else if k < j then (k, b) :: (j, c) :: l else (j, c) :: ins k b l
def raw (h : Heap) (k : Nat) : Option (Option Blk) := look k h.l
def pl : Option Blk → Option Blk
  | some (.par ..) => none
  | some (.kid ..) => none
  | b => b
@[simp] theorem pl_none : pl none = none := rfl
@[simp] theorem pl_cells (ty : TypeId) (cs : List D) : pl (some (.cells ty cs)) = some (.cells ty cs) := rfl
@[simp] theorem pl_map (es : List (D × D)) : pl (some (.map es)) = some (.map es) := rfl
@[simp] theorem pl_iter (s : ByteArray) (p : Nat) : pl (some (.iter s p)) = some (.iter s p) := rfl
@[simp] theorem pl_mark : pl (some .mark) = some .mark := rfl
@[simp] theorem pl_loop (l : Lp) : pl (some (.loop l)) = some (.loop l) := rfl
theorem pl_some {b : Option Blk} {B : Blk} (x : pl b = some B) : b = some B := by
  cases b with
  | none => cases x
  | some c => cases c <;> first | exact x | cases x
def get (h : Heap) (k : Nat) : Option Blk := pl (h.raw k).join
def vget (h : Heap) (k : Nat) : Option (List D) := match h.raw k with
  | some (some (.par _ cs _)) => some cs
  | some (some (.kid _ cs p)) => (match h.raw p with
    | some (some (.par _ _ t)) => if t = k then some cs else none
    | _ => none)
  | _ => none
def set (h : Heap) (k : Nat) (b : Option Blk) : Heap := { h with l := ins k b h.l, z := h.z.filter fun p => p.1 != k }
def fzd (h : Heap) (k : Nat) : Option (List D) := h.z.lookup k
def rdc (h : Heap) (k : Nat) : Option (List D) := match h.get k with
  | some (.cells _ cs) => some cs
  | _ => h.fzd k
def rdv (h : Heap) (k : Nat) : Option (List D) := match h.rdc k with
  | some cs => some cs
  | none => h.vget k
def bump (h : Heap) (n : Nat) : Heap := { h with next := h.next + n }
def empty : Heap := ⟨[], 0, []⟩

theorem look_ins_same (k : Nat) (b : Option Blk) : ∀ l, look k (ins k b l) = some b
  | [] => by simp [ins, look]
  | (j, c) :: l => by
    simp only [ins]
    split
    · simp [look]
    · split
      · simp [look]
      · rename_i h1 h2
        simp only [look, if_neg h1, if_neg h2]
        exact look_ins_same k b l
theorem look_ins_ne {k k' : Nat} (b : Option Blk) (h : k' ≠ k) : ∀ l, look k' (ins k b l) = look k' l
  | [] => by
    simp only [ins, look, if_neg h]; split <;> rfl
  | (j, c) :: l => by
    simp only [ins]
    split
    · rename_i h1; subst h1
      simp only [look, if_neg h]
    · split
      · rename_i h1 h2
        simp only [look, if_neg h]
        by_cases h3 : k' < k
        · rw [if_pos h3]; rw [if_neg (by omega), if_pos (by omega)]
        · rw [if_neg h3]
      · rename_i h1 h2
        simp only [look]
        split
        · rfl
        · split
          · rfl
          · exact look_ins_ne b h l
theorem ins_comm {k k' : Nat} (b b' : Option Blk) (h : k < k') : ∀ l, ins k b (ins k' b' l) = ins k' b' (ins k b l)
  | [] => by simp [ins, h, Nat.ne_of_gt h, Nat.not_lt.2 (Nat.le_of_lt h), Nat.ne_of_lt h]
  | (j, c) :: l => by
    have hne : k ≠ k' := Nat.ne_of_lt h
    have hne' : k' ≠ k := Nat.ne_of_gt h
    have hnl : ¬ k' < k := by omega
    rcases Nat.lt_trichotomy k' j with h1 | h1 | h1
    · simp only [ins, if_neg (Nat.ne_of_lt h1), if_pos h1, if_neg hne, if_pos h, if_neg (show k ≠ j by omega), if_pos (show k < j by omega), if_neg hne', if_neg hnl]
    · subst h1
      simp only [ins, if_true, if_neg hne, if_pos h, if_neg hne', if_neg hnl]
    · rcases Nat.lt_trichotomy k j with h2 | h2 | h2
      · simp only [ins, if_neg (show k' ≠ j by omega), if_neg (show ¬ k' < j by omega), if_neg (show k ≠ j by omega), if_pos h2, if_neg hne', if_neg hnl]
      · subst h2
        simp only [ins, if_neg hne', if_neg hnl, if_true]
      · simp only [ins, if_neg (show k' ≠ j by omega), if_neg (show ¬ k' < j by omega), if_neg (show k ≠ j by omega), if_neg (show ¬ k < j by omega), ins_comm b b' h l]

@[simp] theorem raw_set_same (h : Heap) (k : Nat) (b : Option Blk) : (h.set k b).raw k = some b := look_ins_same k b _
theorem raw_set_ne (h : Heap) {k k' : Nat} (b : Option Blk) (hk : k' ≠ k) : (h.set k b).raw k' = h.raw k' := look_ins_ne b hk _
@[simp] theorem get_set_same (h : Heap) (k : Nat) (b : Option Blk) : (h.set k b).get k = pl b := by simp [get]
theorem get_set_sm {h : Heap} {k : Nat} {b : Option Blk} {B : Blk} (x : (h.set k b).get k = some B) : b = some B := by
  rw [get_set_same] at x
  exact pl_some x
theorem get_set_ne (h : Heap) {k k' : Nat} (b : Option Blk) (hk : k' ≠ k) : (h.set k b).get k' = h.get k' := by simp [get, raw_set_ne h b hk]
@[simp] theorem raw_bump (h : Heap) (n k : Nat) : (h.bump n).raw k = h.raw k := rfl
@[simp] theorem get_bump (h : Heap) (n k : Nat) : (h.bump n).get k = h.get k := rfl
@[simp] theorem next_set (h : Heap) (k : Nat) (b : Option Blk) : (h.set k b).next = h.next := rfl
@[simp] theorem next_bump (h : Heap) (n : Nat) : (h.bump n).next = h.next + n := rfl
theorem raw_of_get {h : Heap} {k : Nat} {B : Blk} (x : h.get k = some B) : h.raw k = some (some B) := by
  have x := pl_some x
  cases y : h.raw k with
  | none => rw [y] at x; cases x
  | some b => rw [y] at x; simp at x; rw [x]
theorem set_comm (h : Heap) {k k' : Nat} (b b' : Option Blk) (hk : k ≠ k') : (h.set k b).set k' b' = (h.set k' b').set k b := by
  simp only [set]
  congr 1
  · rcases Nat.lt_or_ge k k' with h1 | h1
    · exact (ins_comm b b' h1 _).symm
    · exact ins_comm b' b (by omega) _
  · rw [List.filter_filter, List.filter_filter]
    congr 1
    funext p
    exact Bool.and_comm _ _
theorem ins_ins (k : Nat) (b c : Option Blk) : ∀ l, ins k b (ins k c l) = ins k b l
  | [] => by simp [ins]
  | (j, x) :: l => by
    rcases Nat.lt_trichotomy k j with h | h | h
    · simp only [ins, if_neg (Nat.ne_of_lt h), if_pos h, if_true]
    · subst h; simp only [ins, if_true]
    · simp only [ins, if_neg (Nat.ne_of_gt h), if_neg (show ¬ k < j by omega), ins_ins k b c l]
theorem set_set (h : Heap) (k : Nat) (b c : Option Blk) : (h.set k c).set k b = h.set k b := by
  simp only [set, ins_ins, List.filter_filter, Bool.and_self]
theorem lookup_filter (k j : Nat) : ∀ l : List (Nat × List D), (l.filter fun p => p.1 != k).lookup j = if j = k then none else l.lookup j
  | [] => by simp
  | (i, c) :: l => by
    have ih := lookup_filter k j l
    by_cases h1 : i = k
    · subst h1
      rw [List.filter_cons_of_neg (by simp), ih]
      by_cases h2 : j = i
      · rw [if_pos h2, if_pos h2]
      · rw [if_neg h2, if_neg h2, List.lookup_cons, show (j == i) = false by simpa using h2]
    · rw [List.filter_cons_of_pos (by simpa using h1), List.lookup_cons, List.lookup_cons, ih]
      by_cases h2 : j = i
      · subst h2; simp [h1]
      · rw [show (j == i) = false by simpa using h2]
theorem fzd_set (h : Heap) (k : Nat) (b : Option Blk) (j : Nat) : (h.set k b).fzd j = if j = k then none else h.fzd j := lookup_filter k j h.z
@[simp] theorem fzd_set_same (h : Heap) (k : Nat) (b : Option Blk) : (h.set k b).fzd k = none := by rw [fzd_set, if_pos rfl]
theorem fzd_set_ne (h : Heap) {k k' : Nat} (b : Option Blk) (hk : k' ≠ k) : (h.set k b).fzd k' = h.fzd k' := by rw [fzd_set, if_neg hk]
theorem fzd_of_set {h : Heap} {k j : Nat} {b : Option Blk} {cs : List D} (x : (h.set k b).fzd j = some cs) : h.fzd j = some cs := by
  rw [fzd_set] at x
  split at x
  · cases x
  · exact x
@[simp] theorem fzd_bump (h : Heap) (n k : Nat) : (h.bump n).fzd k = h.fzd k := rfl
@[simp] theorem fzd_empty (k : Nat) : Heap.empty.fzd k = none := rfl
theorem vget_par {h : Heap} {k t : Nat} {ty : TypeId} {cs : List D} (x : h.raw k = some (some (.par ty cs t))) : h.vget k = some cs := by unfold vget; rw [x]
theorem vget_kid {h : Heap} {k p : Nat} {ty ty' : TypeId} {cs cs' : List D} (x : h.raw k = some (some (.kid ty cs p))) (y : h.raw p = some (some (.par ty' cs' k))) : h.vget k = some cs := by unfold vget; rw [x]; simp [y]
theorem vget_cases {h : Heap} {k : Nat} {cs : List D} (x : h.vget k = some cs) : (∃ ty t, h.raw k = some (some (.par ty cs t))) ∨ ∃ ty p ty' cs', h.raw k = some (some (.kid ty cs p)) ∧ h.raw p = some (some (.par ty' cs' k)) := by
  unfold vget at x
  split at x
  · rename_i ty c t hr
    cases x; exact .inl ⟨ty, t, hr⟩
  · rename_i ty c p hr
    split at x
    · rename_i ty' c' t hp
      split at x
      · rename_i ht
        cases x; subst ht
        exact .inr ⟨ty, p, ty', c', hr, hp⟩
      · cases x
    · cases x
  · cases x
theorem vget_get {h : Heap} {k : Nat} {cs : List D} (x : h.vget k = some cs) : h.get k = none := by
  rcases vget_cases x with ⟨ty, t, hr⟩ | ⟨ty, p, ty', cs', hr, _⟩ <;> simp [get, hr, pl]
theorem vget_of_set {h : Heap} {k j : Nat} {b : Option Blk} {cs : List D} (hb : pl b = b) (x : (h.set k b).vget j = some cs) : j ≠ k ∧ h.vget j = some cs ∧ ∀ i B, (h.set k b).raw i = some (some B) → pl (some B) = none → i ≠ k ∧ h.raw i = some (some B) := by
  have key : ∀ i B, (h.set k b).raw i = some (some B) → pl (some B) = none → i ≠ k ∧ h.raw i = some (some B) := fun i B hr hp => by
    by_cases hi : i = k
    · subst hi
      rw [raw_set_same] at hr
      cases hr
      rw [hp] at hb; cases hb
    · rw [raw_set_ne h b hi] at hr; exact ⟨hi, hr⟩
  rcases vget_cases x with ⟨ty, t, h1⟩ | ⟨ty, p, ty', cs', h1, h2⟩
  · exact ⟨(key _ _ h1 rfl).1, vget_par (key _ _ h1 rfl).2, key⟩
  · exact ⟨(key _ _ h1 rfl).1, vget_kid (key _ _ h1 rfl).2 (key _ _ h2 rfl).2, key⟩
@[simp] theorem vget_bump (h : Heap) (n k : Nat) : (h.bump n).vget k = h.vget k := rfl
@[simp] theorem vget_empty (k : Nat) : Heap.empty.vget k = none := rfl
def kin (h : Heap) (k t : Nat) : Prop := ∃ ty cs ty' cs', h.raw k = some (some (.par ty cs t)) ∧ h.raw t = some (some (.kid ty' cs' k))
theorem rdc_cells {h : Heap} {k : Nat} {ty : TypeId} {cs : List D} (x : h.get k = some (.cells ty cs)) : h.rdc k = some cs := by unfold rdc; rw [x]
theorem rdc_cases {h : Heap} {k : Nat} {cs : List D} (x : h.rdc k = some cs) : (∃ ty, h.get k = some (.cells ty cs)) ∨ ((∀ ty c, h.get k ≠ some (.cells ty c)) ∧ h.fzd k = some cs) := by
  unfold rdc at x
  split at x
  · rename_i ty c hg
    cases x; exact .inl ⟨ty, hg⟩
  · rename_i hn
    exact .inr ⟨hn, x⟩
theorem rdc_fzd {h : Heap} {k : Nat} {cs : List D} (hn : ∀ ty c, h.get k ≠ some (.cells ty c)) (x : h.fzd k = some cs) : h.rdc k = some cs := by
  unfold rdc
  split
  · rename_i ty c hg
    exact absurd hg (hn ty c)
  · exact x
theorem rdv_cases {h : Heap} {k : Nat} {cs : List D} (x : h.rdv k = some cs) : h.rdc k = some cs ∨ (h.rdc k = none ∧ h.vget k = some cs) := by
  unfold rdv at x
  split at x
  · rename_i c hc
    cases x; exact .inl hc
  · rename_i hc
    exact .inr ⟨hc, x⟩
theorem rdv_rdc {h : Heap} {k : Nat} {cs : List D} (x : h.rdc k = some cs) : h.rdv k = some cs := by unfold rdv; rw [x]
theorem rdv_view {h : Heap} {k : Nat} {cs : List D} (z : h.rdc k = none) (x : h.vget k = some cs) : h.rdv k = some cs := by unfold rdv; rw [z, x]
theorem get_plain {h : Heap} {k : Nat} {B : Blk} (x : h.get k = some B) : pl (some B) = some B := by
  have y := pl_some x
  unfold get at x
  rw [y] at x; exact x
def alloc (h : Heap) (k : Nat) (b : Blk) : Option Heap := match h.raw k with
  | none => some (h.set k (some b))
  | some _ => none
end Heap

inductive Df where
  | mark (k : Nat)
  | call (f : D) (args : List D)

structure FnCode where
  N : Nat
  sh : Bool
  rs : List (ResultVar × Bool × Nat)
  code : Cd
structure Pg where
  code : Nat → Option FnCode
  gl : Nat → Option (List D)
end Go.Em
/- What small code does, with so much fuel. -/
namespace Go.Em
open Go Go.RowKit

mutual
def D.canon : D → Bool
  | .val (.slice none 0 0) | .val (.map none) => false
  | .val _ | .junk => true
  | .agg cs | .tup cs | .eref cs => canonL cs
  | .sl z cs => !z && canonL cs
  | .sle => false
  | .fn _ fs cs => canonL fs && canonL cs
  | .map es => canonE es
  | .iface _ d => d.canon
  | .ptr .. | .slr .. | .mapr _ | .yld _ => false
def D.canonL : List D → Bool
  | [] => true
  | d :: l => d.canon && D.canonL l
def D.canonE : List (D × D) → Bool
  | [] => true
  | (k, v) :: l => k.canon && v.canon && D.canonE l
end
def nz (d : D) : Option D := if d.canon then some d else match d with
  | .val (.slice none 0 0) => some (.sl false [])
  | .sle => some (.sl false [])
  | _ => none
def nzL : List D → Option (List D)
  | [] => some []
  | d :: l => match nz d, nzL l with
    | some d, some l => some (d :: l)
    | _, _ => none
def D.wk : D → D
  | .val (.slice none 0 0) => .sl false []
  | .val (.map none) => .map []
  | .sle => .sl false []
  | d => d
def D.of : Value → D
  | .agg cs => .agg (cs.toList.map .val)
  | .slice none 0 0 => .sl false []
  | v => .val v

def rd (gl : Nat → Option (List D)) (e : List D) : X → D
  | .s n => e.getD n .junk
  | .c v => .val v
  | .f f => .fn (.func f) [] []
  | .g n => match gl n with
    | some cs => .eref cs
    | none => .junk

def ans : Sem Value → Option Value
  | .pure v => if v.oneCell' then some v else none
  | _ => none
def bin (op : BinOp) : Value → Value → Option Value
  | .int k a, .int k' b => ans (binOp op 0 (.int k a) (.int k' b))
  | .string a, .string b => ans (Op.stringOp op a b)
  | _, _ => none

def nilOf : NK → D → Option Bool
  | .iface, .val .nilIface => some true
  | .iface, .iface .. => some false
  | .slice, .val (.slice none 0 0) => some true
  | .slice, .slr .. => some false
  | .slice, .sle => some false
  | .slice, .sl _ (_ :: _) => some false
  | .ptr, .val (.pointer none) => some true
  | .ptr, .ptr .. => some false
  | .ptr, .eref _ => some false
  | .map, .val (.map none) => some true
  | .map, .mapr _ => some false
  | .map, .map (_ :: _) => some false
  | .func, .val .nilFunc => some true
  | .func, .fn .. => some false
  | .func, .yld _ => some false
  | _, _ => none
def cellEq : CK → D → D → Option Bool
  | .int, .val (.int k a), .val (.int k' b) => if k = k' then some (a == b) else none
  | .str, .val (.string a), .val (.string b) => some (a == b)
  | .bool, .val (.bool a), .val (.bool b) => some (a == b)
  | _, _, _ => none
def cellsEq : List CK → List D → List D → Option Bool
  | [], [], [] => some true
  | k :: ks, a :: l, b :: m => match cellEq k a b, cellsEq ks l m with
    | some x, some y => some (x && y)
    | _, _ => none
  | _, _, _ => none
def eqD : EqK → D → D → Option Bool
  | .bool, .val (.bool a), .val (.bool b) => some (a == b)
  | .nil k, x, y => match nilOf k x, nilOf k y with
    | some true, some b => some b
    | some b, some true => some b
    | _, _ => none
  | .cells ks, .agg xs, .agg ys => cellsEq ks xs ys
  | _, _, _ => none

def fillD (cs : List D) : List (Nat × Nat × D) → Option (List D)
  | [] => some cs
  | (off, sz, d) :: l => if d.cells.length = sz ∧ off + sz ≤ cs.length ∧ d.cells.all D.one = true then fillD (cs.take off ++ d.cells ++ cs.drop (off + sz)) l else none

def zerosD (z : List Value) (sz n : Nat) : List D := (List.range (n * sz)).map fun i => .val (z.getD (i % sz) undef)

def chunk (sz : Nat) : Nat → List D → List D
  | 0, _ => []
  | n + 1, l => (if sz = 1 then l.getD 0 .junk else .agg (l.take sz)) :: chunk sz n (l.drop sz)

def bytesD (s : ByteArray) : List D := s.data.toList.map fun b => .val (.int .u8 b.toNat)

def src (h : Heap) (sz : Nat) : D → Option (Nat × List D)
  | .sl _ es => if es.all (fun e => e.cells.length == sz) then some (es.length, es.flatMap D.cells) else none
  | .slr k o n sz' _ => match h.rdc k with
    | some cs => if sz' = sz ∧ o + n * sz ≤ cs.length then some (n, (cs.drop o).take (n * sz)) else none
    | none => none
  | .val (.string s) => if sz = 1 then some (s.size, bytesD s) else none
  | _ => none

def unbytes : List D → Option (List Int)
  | [] => some []
  | .val (.int .u8 n) :: l => (unbytes l).map fun r => n :: r
  | _ => none

def room : Nat := 140737488355328

def appD (t et sz bytes : Nat) (h : Heap) (x : D) (m : Nat) (news : List D) : Option (D × Heap) :=
  match x with
  | .val (.slice none 0 0) => if m * bytes ≤ room ∧ m ≤ maxLen then (h.alloc t (.cells et news)).map fun h => (.slr t 0 m sz none, h) else none
  | .sl true es => if es.all (fun e => e.cells.length == sz) ∧ (es.length + m) * bytes ≤ room ∧ es.length + m ≤ maxLen then (h.alloc t (.cells et (es.flatMap D.cells ++ news))).map fun h => (.slr t 0 (es.length + m) sz none, h) else none
  | .slr k o n sz' c => match h.get k with
    | some (.cells ty cs) =>
      let p := o + n * sz
      if sz' = sz ∧ p ≤ cs.length ∧ (n + m) * bytes ≤ room ∧ n + m ≤ maxLen then
        match c with
        | none =>
          if p + m * sz ≤ cs.length then some (.slr k o (n + m) sz c, h.set k (some (.cells ty (cs.take p ++ news ++ cs.drop (p + m * sz)))))
          else if o = 0 ∧ ty = et then ((h.set k none).alloc t (.cells et (cs.take p ++ news))).map fun h => (.slr t 0 (n + m) sz none, h)
          else none
        | some c' =>
          if n + m ≤ c' then some (.slr k o (n + m) sz c, h.set k (some (.cells ty (cs.take p ++ news ++ cs.drop (p + m * sz)))))
          else (h.alloc t (.cells et ((cs.drop o).take (n * sz) ++ news))).map fun h => (.slr t 0 (n + m) sz none, h)
      else none
    | _ => none
  | _ => none

def appendD (t et sz bytes : Nat) (h : Heap) (x y : D) : Option (D × Heap) :=
  match src h sz y with
  | some (m, news) =>
    if news.all D.one then
      if m = 0 then (match x with
        | .val (.slice none 0 0) | .sl _ _ | .slr .. => some (x, h)
        | _ => none)
      else appD t et sz bytes h x m news
    else none
  | none => none

def opn : Option (Option Blk) → Option (TypeId × List D)
  | some (some (.cells ty cs)) => some (ty, cs)
  | some (some (.par ty cs _)) => some (ty, cs)
  | _ => none
def aplD (t et sz bytes : Nat) (h : Heap) (x : D) (m : Nat) (news : List D) : Option (D × Heap) :=
  match x with
  | .slr k 0 n sz' none => match opn (h.raw k) with
    | some (ty, cs) => if sz' = sz ∧ cs.length = n * sz ∧ ty = et ∧ (n + m) * bytes ≤ room ∧ n + m ≤ maxLen then
        ((h.set k (some (.par ty cs t))).alloc t (.kid et (cs ++ news) k)).map fun h => (.slr t 0 (n + m) sz none, h)
      else none
    | none => none
  | x => appD t et sz bytes h x m news
def aplendD (t et sz bytes : Nat) (h : Heap) (x y : D) : Option (D × Heap) :=
  match src h sz y with
  | some (m, news) =>
    if news.all D.one then
      if m = 0 then none else aplD t et sz bytes h x m news
    else none
  | none => none

def findD (ck : CK) (k : D) : List (D × D) → Nat → Option (Option (Nat × D))
  | [], _ => some none
  | (j, v) :: l, i => match cellEq ck k j with
    | some true => some (some (i, v))
    | some false => findD ck k l (i + 1)
    | none => none
def mapOf (h : Heap) : D → Option (List (D × D))
  | .map es => some es
  | .val (.map none) => some []
  | .mapr k => match h.get k with
    | some (.map es) => some es
    | _ => none
  | _ => none

def optI (gl : Nat → Option (List D)) (e : List D) : Option X → Int → Option Int
  | none, d => some d
  | some x, _ => match rd gl e x with
    | .val (.int _ n) => some n
    | _ => none

def upTo (c : Option Nat) (n o sz len : Nat) (i : Int) : Bool := decide (i ≤ n) || (decide (o + i.toNat * sz ≤ len) && (match c with | none => true | some c' => decide (i ≤ c')))
def headOk (sz : Nat) : List D → Bool
  | [] => true
  | a :: _ => a.cells.length == sz
def mxOk (hi : Int) (okTo : Int → Bool) : Option Int → Bool
  | some m => decide (hi ≤ m) && okTo m
  | none => true
def mxCap (c : Option Nat) (lo : Nat) : Option Int → Option Nat
  | some m => some (m.toNat - lo)
  | none => c.map (· - lo)
def sliceR (k o sz : Nat) (c : Option Nat) (lo hi : Int) (mx : Option Int) (okTo : Int → Bool) : Option D :=
  if (decide (0 ≤ lo) && decide (lo ≤ hi) && okTo hi && mxOk hi okTo mx) = true then
    if lo = hi ∧ 0 < lo then some (.sl false [])
    else some (.slr k (o + lo.toNat * sz) (hi.toNat - lo.toNat) sz (mxCap c lo.toNat mx))
  else none

def M.ev (gl : Nat → Option (List D)) (t : Nat) (e : List D) (h : Heap) : M → Option (D × Heap)
  | .mv x => some (rd gl e x, h)
  | .pick c x y => match rd gl e c with
    | .val (.bool b) => some (if b then rd gl e x else rd gl e y, h)
    | _ => none
  | .bin op x y => match rd gl e x, rd gl e y with
    | .val u, .val v => (Em.bin op u v).map fun r => (.val r, h)
    | _, _ => none
  | .eq ng k x y => (eqD k (rd gl e x) (rd gl e y)).map fun b => (.val (.bool (if ng then !b else b)), h)
  | .not x => match rd gl e x with
    | .val (.bool b) => some (.val (.bool !b), h)
    | _ => none
  | .neg x => match rd gl e x with
    | .val (.int k n) => some (.val (.int k (k.wrap (0 - n))), h)
    | _ => none
  | .cvi k x => match rd gl e x with
    | .val (.int _ n) => some (.val (.int k (k.wrap n)), h)
    | _ => none
  | .alloc ty z => (h.alloc t (.cells ty (z.map .val))).map fun h => (.ptr t 0, h)
  | .box ty n x => if (rd gl e x).cells.length = n ∧ (rd gl e x).cells.all D.one = true then (h.alloc t (.cells ty (rd gl e x).cells)).map fun h => (.ptr t 0, h) else none
  | .ld ag n x => match rd gl e x with
    | .ptr k o => match h.rdc k with
      | some cs => if o + n ≤ cs.length then some (if ag then .agg ((cs.drop o).take n) else cs.getD o .junk, h) else none
      | none => none
    | .eref cs => if n ≤ cs.length then some (if ag then .agg (cs.take n) else cs.getD 0 .junk, h) else none
    | _ => none
  | .ldv ag n x => match rd gl e x with
    | .ptr k o => match h.rdv k with
      | some cs => if o + n ≤ cs.length then some (if ag then .agg ((cs.drop o).take n) else cs.getD o .junk, h) else none
      | none => none
    | .eref cs => if n ≤ cs.length then some (if ag then .agg (cs.take n) else cs.getD 0 .junk, h) else none
    | _ => none
  | .st n x y => match rd gl e x with
    | .ptr k o => match h.get k with
      | some (.cells ty cs) => if (rd gl e y).cells.length = n ∧ (rd gl e y).cells.all D.one = true ∧ o + n ≤ cs.length then some (.junk, h.set k (some (.cells ty (cs.take o ++ (rd gl e y).cells ++ cs.drop (o + n))))) else none
      | _ => none
    | _ => none
  | .nc x => match rd gl e x with
    | .ptr k o => some (.ptr k o, h)
    | .eref cs => some (.eref cs, h)
    | .fn (.func f) fs cs => some (.fn (.func f) fs cs, h)
    | .yld k => some (.yld k, h)
    | .iface u d => some (.iface u d, h)
    | _ => none
  | .fa x off => match rd gl e x with
    | .ptr k o => some (.ptr k (o + off), h)
    | .eref cs => some (.eref (cs.drop off), h)
    | _ => none
  | .iaa m sz x i => match rd gl e i with
    | .val (.int _ n) => if 0 ≤ n ∧ n < m then (match rd gl e x with
      | .ptr k o => some (.ptr k (o + n.toNat * sz), h)
      | .eref cs => some (.eref (cs.drop (n.toNat * sz)), h)
      | _ => none) else none
    | _ => none
  | .ias sz x i => match rd gl e i with
    | .val (.int _ n) => (match rd gl e x with
      | .sl _ es => if 0 ≤ n then (match es[n.toNat]? with
        | some c => if c.cells.length = sz then some (.eref c.cells, h) else none
        | none => none) else none
      | .slr k o m sz' _ => if sz' = sz ∧ 0 ≤ n ∧ n < m then some (.ptr k (o + n.toNat * sz), h) else none
      | _ => none)
    | _ => none
  | .fd ag n off x => match rd gl e x with
    | .agg cs => if off + n ≤ cs.length then some (if ag then .agg ((cs.drop off).take n) else cs.getD off .junk, h) else none
    | _ => none
  | .ixs x i => match rd gl e x, rd gl e i with
    | .val (.string s), .val (.int _ n) => if 0 ≤ n then (s.data[n.toNat]?).map fun c => (.val (.int .u8 c.toNat), h) else none
    | _, _ => none
  | .ex x i => match rd gl e x with
    | .tup cs => (cs[i]?).map fun c => (c, h)
    | _ => none
  | .len x => match (rd gl e x).wk with
    | .sl _ es => some (.int es.length, h)
    | .slr _ _ n _ _ => some (.int n, h)
    | _ => none
  | .lens x => match rd gl e x with
    | .val (.string s) => some (.int s.size, h)
    | _ => none
  | .cap x => match rd gl e x with
    | .val (.slice none 0 0) => some (.int 0, h)
    | .sl true es => some (.int es.length, h)
    | .slr _ _ _ _ (some c) => some (.int c, h)
    | _ => none
  | .app et sz bytes x y => appendD t et sz bytes h (rd gl e x) (rd gl e y).wk
  | .apl et sz bytes x y => aplendD t et sz bytes h (rd gl e x) (rd gl e y).wk
  | .apz et sz bytes z x y => match rd gl e x, rd gl e y with
    | .val (.slice none 0 0), .val (.int _ n) => if 0 < n ∧ z.length = sz ∧ 0 < sz ∧ n.toNat * bytes ≤ room ∧ n.toNat ≤ maxLen then (h.alloc t (.cells et (zerosD z sz n.toNat))).map fun h => (.slr t 0 n.toNat sz none, h) else none
    | _, _ => none
  | .cpy sz x y => match (rd gl e x).wk, src h sz (rd gl e y).wk with
    | .sl _ [], some _ => some (.int 0, h)
    | .slr k o n sz' _, some (m, news) => match h.get k with
      | some (.cells ty cs) => if sz' = sz ∧ o + n * sz ≤ cs.length ∧ news.all D.one = true then some (.int (min m n : Nat), h.set k (some (.cells ty (cs.take o ++ news.take (min m n * sz) ++ cs.drop (o + min m n * sz))))) else none
      | _ => none
    | _, _ => none
  | .clr z x => match (rd gl e x).wk with
    | .sl _ [] => some (.tup [], h)
    | .slr k o n sz _ => if n = 0 then some (.tup [], h) else match h.get k with
      | some (.cells ty cs) => if z.length = sz ∧ 0 < sz ∧ o + n * sz ≤ cs.length then some (.tup [], h.set k (some (.cells ty (cs.take o ++ zerosD z sz n ++ cs.drop (o + n * sz))))) else none
      | _ => none
    | _ => none
  | .bs et sz n z ps => match fillD (zerosD z sz n) (ps.map fun p => (p.1 * sz, sz, rd gl e p.2)) with
    | some cs => (h.alloc t (.cells et cs)).map fun h => (.slr t 0 n sz (some n), h)
    | none => none
  | .bst et sz n z ps => match fillD (zerosD z sz n) (ps.map fun p => (p.1 * sz, sz, rd gl e p.2)) with
    | some cs => if D.canonL (cs.take (n * sz)) = true ∧ 0 < sz ∧ n * sz ≤ cs.length then (h.alloc t (.cells et cs)).map fun h => (.sl false (chunk sz n (cs.take (n * sz))), h.set t none)
      else match nzL (cs.take (n * sz)) with
      | some ds => if 0 < sz ∧ n * sz ≤ cs.length then (h.alloc t (.cells et cs)).map fun h => (.sl false (chunk sz n ds), h.set t none) else none
      | none => none
    | none => none
  | .bld z ps => (fillD (z.map .val) (ps.map fun p => (p.1, p.2.1, rd gl e p.2.2))).map fun cs => (.agg cs, h)
  | .mks et sz bytes z l c => match rd gl e l, rd gl e c with
    | .val (.int _ l), .val (.int _ c) => if 0 ≤ l ∧ l ≤ c ∧ bytes * c ≤ room then (h.alloc t (.cells et (zerosD z sz l.toNat))).map fun h => (.slr t 0 l.toNat sz (some c.toNat), h) else none
    | _, _ => none
  | .slc sz x lo hi mx => match rd gl e x with
    | .slr k o n sz' c => match h.rdc k, optI gl e lo 0, optI gl e hi n with
      | some cs, some l, some hh => if sz' = sz ∧ 0 < sz then
          (match mx with
          | none => (sliceR k o sz c l hh none (upTo c n o sz cs.length)).map fun d => (d, h)
          | some m => match optI gl e (some m) 0 with
            | some m => (sliceR k o sz c l hh (some m) (upTo c n o sz cs.length)).map fun d => (d, h)
            | none => none)
        else none
      | _, _, _ => none
    | .val (.slice none 0 0) => match optI gl e lo 0, optI gl e hi 0, mx with
      | some 0, some 0, none => some (.val (.slice none 0 0), h)
      | _, _, _ => none
    | x => match x.wk with
      | .sl _ es => match optI gl e lo 0, optI gl e hi es.length with
        | some l, some hh => if 0 ≤ l ∧ l ≤ hh ∧ hh ≤ es.length ∧ headOk sz es = true then
            (match mx with
            | none => some (.sl false ((es.drop l.toNat).take (hh.toNat - l.toNat)), h)
            | some m => match optI gl e (some m) 0 with
              | some m => if m = hh then some (.sl true ((es.drop l.toNat).take (hh.toNat - l.toNat)), h) else none
              | none => none)
          else none
        | _, _ => none
      | _ => none
  | .sls x lo hi => match rd gl e x with
    | .val (.string s) => match optI gl e lo 0, optI gl e hi s.size with
      | some l, some hh => if 0 ≤ l ∧ l ≤ hh ∧ hh ≤ s.size then some (.val (.string (s.extract l.toNat hh.toNat)), h) else none
      | _, _ => none
    | _ => none
  | .sla m sz x lo hi mx => match rd gl e x with
    | .ptr k o => match optI gl e lo 0, optI gl e hi m, optI gl e mx m with
      | some l, some hh, some ma => (sliceR k o sz none l hh (some ma) fun i => decide (i ≤ m)).map fun d => (d, h)
      | _, _, _ => none
    | _ => none
  | .mkf f fs caps => some (.fn f (fs.map (rd gl e)) (caps.map (rd gl e)), h)
  | .mm mx x y => match rd gl e x, rd gl e y with
    | .val (.int k a), .val (.int k' b) => if k = k' then some (.val (.int k (if mx then max a b else min a b)), h) else none
    | _, _ => none
  | .mkm => (h.alloc t (.map [])).map fun h => (.mapr t, h)
  | .mkmc x => match rd gl e x with
    | .val (.int _ _) => (h.alloc t (.map [])).map fun h => (.mapr t, h)
    | _ => none
  | .upd ck x k v => match rd gl e x with
    | .mapr j => match h.get j with
      | some (.map es) => (match findD ck (rd gl e k) es 0 with
        | some (some (i, _)) => some (.junk, h.set j (some (.map (es.set i (rd gl e k, rd gl e v)))))
        | some none => some (.junk, h.set j (some (.map (es ++ [(rd gl e k, rd gl e v)]))))
        | none => none)
      | _ => none
    | _ => none
  | .lk ck z ok x k => match mapOf h (rd gl e x) with
    | some es => (match findD ck (rd gl e k) es 0 with
      | some (some (_, v)) => some (if ok then .tup [v, .bool true] else v, h)
      | some none => some (if ok then .tup [D.of z, .bool false] else D.of z, h)
      | none => none)
    | none => none
  | .rng x => match rd gl e x with
    | .val (.string s) => (h.alloc t (.iter s 0)).map fun h => (.ptr t 0, h)
    | _ => none
  | .nxt x => match rd gl e x with
    | .ptr k 0 => match h.get k with
      | some (.iter s pos) => if pos < s.size then some (.tup [.bool true, .int pos, .val (.int .i32 (Utf8.decode s pos).1)], h.set k (some (.iter s (pos + (Utf8.decode s pos).2)))) else some (.tup [.bool false], h)
      | _ => none
    | _ => none
  | .mki ty x => some (.iface ty (rd gl e x), h)
  | .ta ty z x => match rd gl e x with
    | .val .nilIface => some (.tup [D.of z, .bool false], h)
    | .iface u d => if u = ty then some (.tup [d, .bool true], h) else some (.tup [D.of z, .bool false], h)
    | _ => none
  | .s2b _ x => match rd gl e x with
    | .val (.string s) => if s.size ≤ maxLen then some (.sl false (bytesD s), h) else none
    | _ => none
  | .b2s x => match (rd gl e x).wk with
    | .val _ => none
    | y => match src h 1 y with
      | some (_, ds) => (unbytes ds).map fun l => (.val (.string (l.foldl (fun r n => r.push (UInt8.ofNat n.toNat)) ByteArray.empty)), h)
      | none => none
  | .cbs x => match rd gl e x with
    | .slr k o n 1 _ => match h.get k with
      | some (.cells _ cs) => if o + n ≤ cs.length ∧ D.canonL ((cs.drop o).take n) = true then some (.sl false (chunk 1 n ((cs.drop o).take n)), h.set k none) else none
      | _ => none
    | _ => none
  | .cpl x => match rd gl e x with
    | .val (.int k n) => (ans (Op.unary .xor (.int k n))).map fun r => (.val r, h)
    | _ => none
  | .ixa ag sz m x i => match rd gl e x, rd gl e i with
    | .agg cs, .val (.int _ n) => if 0 ≤ n ∧ n < m ∧ n.toNat * sz + sz ≤ cs.length then some (if ag then .agg ((cs.drop (n.toNat * sz)).take sz) else cs.getD (n.toNat * sz) .junk, h) else none
    | _, _ => none
  | _ => none
end Go.Em
