/- Claims, and whether one is valid: by the program and by the document. -/
import Derived.Test.YtjgafgkkpofgbaaDoorPg
import Derived.Test.YtjgafgkkpofgbaaDoorEmSets
namespace Go.Proofs.YtjgafgkkpofgbaaDoor
open Go Go.Em
set_option maxRecDepth 100000
def clC (c : Clm) : List D := [D.int c.a, D.int c.b, D.int c.lo, D.int c.hi, D.int c.by_]
def clD (c : Clm) : D := .agg (clC c)
def clsD (l : List Clm) : D := .sl false (l.map clD)
theorem cl_canon (c : Clm) : (clD c).canon = true := by simp [clD, clC]
end Go.Proofs.YtjgafgkkpofgbaaDoor
