/- The table of small code of this seat; ashes, bands; the values that two bands have in common. -/
import Derived.Test.YtnfhgnbniajhoaaDoorCode
import Derived.Test.YtnfhgnbniajhoaaDoorEmZ
import Derived.Test.YtnfhgnbniajhoaaDoorEmY
import Derived.KernelRfl
namespace Go.Proofs.YtnfhgnbniajhoaaDoor
open Go Go.Em
set_option maxRecDepth 100000
def novD : List D := [D.int 1, D.int 0]
def pg : Pg := ⟨codeAt, fun g => bif Nat.beq g 0 then some novD else none⟩
@[simp] theorem rd_nov (e : List D) : rd pg.gl e (.g 0) = .eref [D.int 1, D.int 0] := rfl
structure Bd where
  lo : Int
  hi : Int
structure As where
  id : Int
  mark : Int
  a : Bd
  b : Bd
  c : Bd
structure G3 where
  a : Bd
  b : Bd
  c : Bd
def bdD (b : Bd) : D := .agg [D.int b.lo, D.int b.hi]
def asD (x : As) : D := .agg [D.int x.id, D.int x.mark, D.int x.a.lo, D.int x.a.hi, D.int x.b.lo, D.int x.b.hi, D.int x.c.lo, D.int x.c.hi]
def assD (l : List As) : D := .sl false (l.map asD)
def g3C (g : G3) : List D := [D.int g.a.lo, D.int g.a.hi, D.int g.b.lo, D.int g.b.hi, D.int g.c.lo, D.int g.c.hi]
def zero3 : G3 := ⟨⟨0, 0⟩, ⟨0, 0⟩, ⟨0, 0⟩⟩
def As.g (x : As) : G3 := ⟨x.a, x.b, x.c⟩
def isect (x y : Bd) : Bd := ⟨max x.lo y.lo, min x.hi y.hi⟩
def bad (x : Bd) : Bool := decide (x.hi < x.lo)
def inBothF (x y : Bd) : Bd := if bad (isect x y) = true then ⟨1, 0⟩ else isect x y
theorem inboth_run (x y : Bd) {n : Nat} (hn : 1 ≤ n) : pureCall (rc pg n) 27 [bdD x, bdD y] = some (.ret (bdD (inBothF x y))) := by
  obtain ⟨m, rfl, e⟩ := body (pg := pg) (f := 27) (args := [bdD x, bdD y]) (show 0 < n by omega) rfl rfl
  rw [e]
  by_cases h : min x.hi y.hi < max x.lo y.lo
  · have hb : bad (isect x y) = true := decide_eq_true h
    have e2 : inBothF x y = ⟨1, 0⟩ := by unfold inBothF; rw [if_pos hb]
    rw [e2]
    simp [k27, Env.v_ini, bdD, D.cells, D.one, h]
  · have hb : bad (isect x y) = false := decide_eq_false h
    have e2 : inBothF x y = isect x y := by unfold inBothF; rw [hb]; rfl
    rw [e2]
    simp [k27, Env.v_ini, bdD, D.cells, D.one, h, isect]
end Go.Proofs.YtnfhgnbniajhoaaDoor
