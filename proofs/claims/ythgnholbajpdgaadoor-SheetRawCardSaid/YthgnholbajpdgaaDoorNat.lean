/- What a row is. -/
import Derived.Test.YthgnholbajpdgaaDoorPlaces
import Derived.Test.YthgnholbajpdgaaDoorEmZ
namespace Go.Proofs.YthgnholbajpdgaaDoor
open Go Go.Em
set_option maxRecDepth 100000
structure Rw where
  k : Int
  n : Int
  m : Int
def rowD (r : Rw) : D := .agg [D.int r.k, D.int r.n, D.int r.m]
structure Nt where
  valid : Bool := false
  lo : Int := 0
  hi : Int := 0
  layers : List Int := []
  bed : Int := 0
  hides : Bool := false
  choice : Bool := false
def natC (t : Nt) : List D := [D.bool t.valid, D.int t.lo, D.int t.hi, .sl false (t.layers.map D.int), D.int t.bed, D.bool t.hides, D.bool t.choice]
def natD (t : Nt) : D := .agg (natC t)
def inB (a lo hi : Int) : Bool := decide (lo ≤ a) && decide (a ≤ hi)
def thickB (a : Int) : Bool := inB a 1 100000
theorem thick_run {n : Nat} (hn : 2 ≤ n) (a : Int) : pureCall (rc pg n) 104 [D.int a] = some (.ret (D.bool (thickB a))) := by
  obtain ⟨m, rfl, e⟩ := body (pg := pg) (f := 104) (args := [D.int a]) (show 0 < n by omega) rfl rfl
  rw [e]
  have hw := @within_run m (by omega)
  simp [k104, Env.v_ini, hw, thickB, inB]
/-- What a row of a kind is. -/
def natF (r : Rw) : Nt :=
  if r.k = 1 then { valid := inB r.n 0 63 && r.m == 0 }
  else if r.k = 2 then { valid := thickB r.n && r.m == 0, lo := 1, hi := 1, layers := [r.n] }
  else if r.k = 3 then { valid := thickB r.n && thickB r.m, lo := 1, hi := 2, layers := [r.n, r.m], choice := true }
  else if r.k = 4 then { valid := inB r.n 1 1000 && r.m == 0, hi := r.n, hides := true, choice := true }
  else if r.k = 5 then { valid := thickB r.n && r.m == 0, bed := r.n }
  else if r.k = 6 then { valid := inB r.n 0 r.m && inB r.m 1 1000, lo := r.n, hi := r.m, hides := true, choice := true }
  else {}
theorem in_run {n : Nat} (hn : 1 ≤ n) (a lo hi : Int) : pureCall (rc pg n) 63 [D.int a, D.int lo, D.int hi] = some (.ret (D.bool (inB a lo hi))) := by
  obtain ⟨m, rfl, e⟩ := body (pg := pg) (f := 63) (args := [D.int a, D.int lo, D.int hi]) hn rfl rfl
  rw [e]
  by_cases h1 : lo ≤ a <;> simp [k63, Env.v_ini, h1, inB]
theorem mark_nat {n : Nat} (hn : 3 ≤ n) (r : Rw) : pureCall (rc pg n) 102 [rowD r] = some (.ret (natD { valid := inB r.n 0 63 && r.m == 0 })) := by
  obtain ⟨m, rfl, e⟩ := body (pg := pg) (f := 102) (args := [rowD r]) (show 0 < n by omega) rfl rfl
  rw [e]
  have hw := fun a lo hi h => call_of (h := h) (pg := pg) (f := 63) rfl rfl (@in_run m (by omega) a lo hi)
  have hv := @in_run m (by omega)
  have h1 : pg.sh 63 = false := rfl
  by_cases h : inB r.n 0 63 = true <;> simp [k102, Env.v_ini, hw, h, rowD, D.cells, D.one, natD, natC]
theorem year_nat {n : Nat} (hn : 3 ≤ n) (r : Rw) : pureCall (rc pg n) 103 [rowD r] = some (.ret (natD { valid := thickB r.n && r.m == 0, lo := 1, hi := 1, layers := [r.n] })) := by
  obtain ⟨m, rfl, e⟩ := body (pg := pg) (f := 103) (args := [rowD r]) (show 0 < n by omega) rfl rfl
  rw [e]
  have hv := @thick_run m (by omega)
  have h1 : pg.sh 104 = false := rfl
  by_cases h : thickB r.n = true <;> simp [k103, Env.v_ini, hv, h, rowD, D.cells, D.one, dcore_f, h1, zerosD, natD, natC, chunk]
theorem pair_nat {n : Nat} (hn : 3 ≤ n) (r : Rw) : pureCall (rc pg n) 105 [rowD r] = some (.ret (natD { valid := thickB r.n && thickB r.m, lo := 1, hi := 2, layers := [r.n, r.m], choice := true })) := by
  obtain ⟨m, rfl, e⟩ := body (pg := pg) (f := 105) (args := [rowD r]) (show 0 < n by omega) rfl rfl
  rw [e]
  have hv := @thick_run m (by omega)
  have h1 : pg.sh 104 = false := rfl
  by_cases h : thickB r.n = true <;> simp [k105, Env.v_ini, hv, h, rowD, D.cells, D.one, dcore_f, h1, zerosD, List.range_succ, natD, natC, chunk]
theorem slump_nat {n : Nat} (hn : 3 ≤ n) (r : Rw) : pureCall (rc pg n) 106 [rowD r] = some (.ret (natD { valid := inB r.n 1 1000 && r.m == 0, hi := r.n, hides := true, choice := true })) := by
  obtain ⟨m, rfl, e⟩ := body (pg := pg) (f := 106) (args := [rowD r]) (show 0 < n by omega) rfl rfl
  rw [e]
  have hv := @in_run m (by omega)
  have h1 : pg.sh 63 = false := rfl
  by_cases h : inB r.n 1 1000 = true <;> simp [k106, Env.v_ini, hv, h, rowD, D.cells, D.one, dcore_f, h1, natD, natC]
theorem bed_nat {n : Nat} (hn : 3 ≤ n) (r : Rw) : pureCall (rc pg n) 107 [rowD r] = some (.ret (natD { valid := thickB r.n && r.m == 0, bed := r.n })) := by
  obtain ⟨m, rfl, e⟩ := body (pg := pg) (f := 107) (args := [rowD r]) (show 0 < n by omega) rfl rfl
  rw [e]
  have hv := @thick_run m (by omega)
  have h1 : pg.sh 104 = false := rfl
  by_cases h : thickB r.n = true <;> simp [k107, Env.v_ini, hv, h, rowD, D.cells, D.one, dcore_f, h1, natD, natC]
theorem gap_nat {n : Nat} (hn : 3 ≤ n) (r : Rw) : pureCall (rc pg n) 108 [rowD r] = some (.ret (natD { valid := inB r.n 0 r.m && inB r.m 1 1000, lo := r.n, hi := r.m, hides := true, choice := true })) := by
  obtain ⟨m, rfl, e⟩ := body (pg := pg) (f := 108) (args := [rowD r]) (show 0 < n by omega) rfl rfl
  rw [e]
  have hv := @in_run m (by omega)
  have hw := fun a lo hi h => call_of (h := h) (pg := pg) (f := 63) rfl rfl (@in_run m (by omega) a lo hi)
  have h1 : pg.sh 63 = false := rfl
  by_cases h : inB r.n 0 r.m = true <;> simp [k108, Env.v_ini, hw, h, rowD, D.cells, D.one, natD, natC]
/-- The map of kinds. -/
def kindsD : D := .map [(D.int 1, .fn (.func 102) [] []), (D.int 2, .fn (.func 103) [] []), (D.int 3, .fn (.func 105) [] []), (D.int 4, .fn (.func 106) [] []), (D.int 5, .fn (.func 107) [] []), (D.int 6, .fn (.func 108) [] [])]
theorem kinds_more (m : Nat) : pureCall (rc pg (m + 2)) 66 [] = some (.ret kindsD) := by kernel_rfl
theorem kinds_run {n : Nat} (hn : 2 ≤ n) : pureCall (rc pg n) 66 [] = some (.ret kindsD) := by
  obtain ⟨m, hm⟩ := more_of hn
  rw [hm]
  exact kinds_more m
theorem row_canon (r : Rw) : D.canonL [rowD r] = true := rfl
theorem of_run {n : Nat} (hn : 5 ≤ n) (r : Rw) : pureCall (rc pg n) 65 [kindsD, rowD r] = some (.ret (natD (natF r))) := by
  obtain ⟨m, rfl, e⟩ := body (pg := pg) (f := 65) (args := [kindsD, rowD r]) (show 0 < n by omega) rfl rfl
  rw [e]
  have j1 := fun h => call_of (h := h) (pg := pg) (f := 102) rfl (row_canon r) (@mark_nat m (by omega) r)
  have j2 := fun h => call_of (h := h) (pg := pg) (f := 103) rfl (row_canon r) (@year_nat m (by omega) r)
  have j3 := fun h => call_of (h := h) (pg := pg) (f := 105) rfl (row_canon r) (@pair_nat m (by omega) r)
  have j4 := fun h => call_of (h := h) (pg := pg) (f := 106) rfl (row_canon r) (@slump_nat m (by omega) r)
  have j5 := fun h => call_of (h := h) (pg := pg) (f := 107) rfl (row_canon r) (@bed_nat m (by omega) r)
  have j6 := fun h => call_of (h := h) (pg := pg) (f := 108) rfl (row_canon r) (@gap_nat m (by omega) r)
  simp only [rowD, natD, natC] at j1 j2 j3 j4 j5 j6
  obtain ⟨k, a, b⟩ := r
  by_cases h1 : k = 1
  · subst h1; simp [k65, Env.v_ini, rowD, D.cells, D.one, kindsD, natD, natC, natF, j1]
  by_cases h2 : k = 2
  · subst h2; simp [k65, Env.v_ini, rowD, D.cells, D.one, kindsD, natD, natC, natF, j2]
  by_cases h3 : k = 3
  · subst h3; simp [k65, Env.v_ini, rowD, D.cells, D.one, kindsD, natD, natC, natF, j3]
  by_cases h4 : k = 4
  · subst h4; simp [k65, Env.v_ini, rowD, D.cells, D.one, kindsD, natD, natC, natF, j4]
  by_cases h5 : k = 5
  · subst h5; simp [k65, Env.v_ini, rowD, D.cells, D.one, kindsD, natD, natC, natF, j5]
  by_cases h6 : k = 6
  · subst h6; simp [k65, Env.v_ini, rowD, D.cells, D.one, kindsD, natD, natC, natF, j6]
  have b1 : (k == 1) = false := by simpa using h1
  have b2 : (k == 2) = false := by simpa using h2
  have b3 : (k == 3) = false := by simpa using h3
  have b4 : (k == 4) = false := by simpa using h4
  have b5 : (k == 5) = false := by simpa using h5
  have b6 : (k == 6) = false := by simpa using h6
  simp [k65, Env.v_ini, rowD, D.cells, D.one, kindsD, natD, natC, natF, h1, h2, h3, h4, h5, h6, b1, b2, b3, b4, b5, b6, D.of]
end Go.Proofs.YthgnholbajpdgaaDoor
