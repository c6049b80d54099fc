/- A call in a heap of its own. -/
import Derived.Test.YtfemldhlanoakaaGreatDoorEmM
import Derived.RangeFuncNested
import Derived.RangeFuncLeaves
import Derived.RecoverIn
import Derived.LoopNIn
import Derived.TacticsIn
namespace Go.Em
open Go Go.RowKit

/-- Every function of the program's, at any depth. -/
def Fe (P : Program) (r : Option Nat) : Fence := { fn := fun f => (P.funcs[f]?).isSome = true, depth := none, alive := false, round := r }

inductive ExRel (K : Ctx) : Ex → Exit → Prop
  | normal : ExRel K .normal .normal
  | exit (id : Nat) : ExRel K (.exit id) (.exit id)
  | ret : ExRel K .ret .ret
  | pan (d : D) (v : Value) : Den K v d → ExRel K (.pan d) (.panic [{ v, recovered := false }])
inductive OutRel (K : Ctx) : Out → Ending → Prop
  | ret (d : D) (v : Value) : Den K v d → OutRel K (.ret d) (.returned v)
  | pan (d : D) (v : Value) : Den K v d → OutRel K (.pan d) (.panicked [{ v, recovered := false }])

inductive DfRel (K : Ctx) : List Df → List Deferred → Prop
  | nil : DfRel K [] []
  | mark (k b n : Nat) (l : List Df) (ds : List Deferred) : K.loc k = some (b, n) → DfRel K l ds → DfRel K (.mark k :: l) ({ target := .collected b, args := #[] } :: ds)
  | call (f : FuncId) (us vs ws : List Value) (fs args caps : List D) (l : List Df) (ds : List Deferred) : DenL K us fs → DenL K vs args → DenL K ws caps → DfRel K l ds →
      DfRel K (.call (.fn (.func f) fs caps) args :: l) ({ target := .fn (.func f) ws.toArray, args := us.toArray ++ vs.toArray } :: ds)
theorem DfRel.mono {K K' : Ctx} (h : K.le K') {l : List Df} {ds : List Deferred} (r : DfRel K l ds) : DfRel K' l ds := by
  induction r with
  | nil => exact .nil
  | mark k b n l ds h1 _ ih => exact .mark k b n l ds (h.loc _ _ h1) ih
  | call f us vs ws fs args caps l ds h1 h2 h3 _ ih => exact .call f us vs ws fs args caps l ds (h1.mono h) (h2.mono h) (h3.mono h) ih

structure Fd (K : Ctx) (N : Nat) (s : St) (a : Act) : Prop where
  fr : Fr K N s.e a
  df : DfRel K s.df a.defers
theorem Fd.mono {K K' : Ctx} (h : K.le K') {N : Nat} {s : St} {a : Act} (f : Fd K N s a) : Fd K' N s a := ⟨f.fr.mono h, f.df.mono h⟩

def FnIs (P : Program) (f : FuncId) : Prop := ∃ fn, P.funcs[f]? = some fn ∧ fn.body ≠ none ∧ fn.name ≠ "runtime.NumGoroutine"
def lk (P : Program) : Lk := ⟨fun N c m => Cd.of P N c = some m, fun f => (P.funcs[f]?).isSome = true⟩
structure IsC (P : Program) (pg : Pg) (C : Cx) : Prop where
  hP : C.P = P
  hpg : C.pg = pg
  hofc : C.ofc = lk P
  gl : ∀ g cs, pg.gl g = some cs → D.pureL cs = true
end Go.Em
