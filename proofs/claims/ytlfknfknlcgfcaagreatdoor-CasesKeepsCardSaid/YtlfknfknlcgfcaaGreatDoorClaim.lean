/- Claims, and whether one is valid: by the program and by the document. -/
import Derived.Test.YtlfknfknlcgfcaaGreatDoorPg
import Derived.Test.YtlfknfknlcgfcaaGreatDoorEmBits
namespace Go.Proofs.YtlfknfknlcgfcaaGreatDoor
open Go Go.Em
set_option maxRecDepth 100000
def clC (c : Clm) : List D := [D.int c.a, D.int c.b, D.int c.lo, D.int c.hi, D.int c.by_]
def clD (c : Clm) : D := .agg (clC c)
def clsD (l : List Clm) : D := .sl false (l.map clD)
theorem cl_canon (c : Clm) : (clD c).canon = true := by simp [clD, clC]
theorem cls_canon (l : List Clm) : D.canonL [clsD l] = true := by simp [clsD, canonL_map clD cl_canon l]
def inR (n lo hi : Int) : Bool := decide (lo ≤ n ∧ n ≤ hi)
theorem inR_eq {n lo hi : Int} : inR n lo hi = (decide (lo ≤ n) && decide (n ≤ hi)) := by unfold inR; by_cases h1 : lo ≤ n <;> by_cases h2 : n ≤ hi <;> simp [h1, h2]
theorem within_run {n : Nat} (hn : 1 ≤ n) (a lo hi : Int) (h : Heap) : call pg (rc pg n) 195 [D.int a, D.int lo, D.int hi] h = some (.ret (D.bool (inR a lo hi)), h) := by
  refine call_of rfl rfl ?_
  obtain ⟨m, rfl, e⟩ := body (pg := pg) (f := 195) (args := [D.int a, D.int lo, D.int hi]) hn rfl rfl
  rw [e, inR_eq]
  by_cases h1 : lo ≤ a <;> simp [k195, Env.v_ini, h1]
theorem rwithin_run {n : Nat} (hn : 1 ≤ n) (a lo hi : Int) (h : Heap) : call pg (rc pg n) 162 [D.int a, D.int lo, D.int hi] h = some (.ret (D.bool (inR a lo hi)), h) := by
  refine call_of rfl rfl ?_
  obtain ⟨m, rfl, e⟩ := body (pg := pg) (f := 162) (args := [D.int a, D.int lo, D.int hi]) hn rfl rfl
  rw [e, inR_eq]
  by_cases h1 : lo ≤ a <;> simp [k162, Env.v_ini, h1]
def okF (c : Clm) : Bool := inR c.a 0 2048 && inR c.b 0 2048 && (c.a != c.b) && inR c.lo (-100000) c.hi && decide (c.hi ≤ 100000) && inR c.by_ 1 99999
def ckF (c : Clm) : Int := if okF c = true then 0 else 20
theorem ok_marks {c : Clm} (h : okF c = true) : (0 ≤ c.a ∧ c.a ≤ 2048) ∧ (0 ≤ c.b ∧ c.b ≤ 2048) := by
  unfold okF at h
  simp only [inR_eq, Bool.and_eq_true, decide_eq_true_eq] at h
  omega
set_option maxHeartbeats 1000000 in
theorem ck_run (c : Clm) {n : Nat} (hn : 2 ≤ n) : pureCall (rc pg n) 173 [clD c] = some (.ret (D.int (ckF c))) := by
  obtain ⟨m, rfl, e⟩ := body (pg := pg) (f := 173) (args := [clD c]) (show 0 < n by omega) rfl rfl
  rw [e]
  have hw := @within_run m (by omega)
  unfold ckF okF
  cases h1 : inR c.a 0 2048 <;> cases h2 : inR c.b 0 2048 <;> cases h3 : (c.a == c.b) <;> cases h4 : inR c.lo (-100000) c.hi <;> by_cases h5 : c.hi ≤ 100000 <;> cases h6 : inR c.by_ 1 99999 <;>
    simp [k173, Env.v_ini, clD, clC, D.cells, D.one, hw, bne, h1, h2, h3, h4, h5, h6]
theorem range_two (lo hi : Int) : (inR lo (-100000) 100000 && inR hi lo 100000) = (inR lo (-100000) hi && decide (hi ≤ 100000)) := by
  simp only [inR_eq]
  by_cases h1 : -100000 ≤ lo <;> by_cases h2 : lo ≤ hi <;> by_cases h3 : hi ≤ 100000 <;> simp [h1, h2, h3] <;> omega
theorem ok_ref (c : Clm) : okF c = (inR c.a 0 2048 && inR c.b 0 2048 && (c.a != c.b) && (inR c.lo (-100000) 100000 && inR c.hi c.lo 100000) && inR c.by_ 1 99999) := by
  rw [range_two]; unfold okF; simp only [Bool.and_assoc]
set_option maxHeartbeats 1000000 in
theorem rck_run (c : Clm) {n : Nat} (hn : 2 ≤ n) : pureCall (rc pg n) 172 [clD c] = some (.ret (D.int (ckF c))) := by
  obtain ⟨m, rfl, e⟩ := body (pg := pg) (f := 172) (args := [clD c]) (show 0 < n by omega) rfl rfl
  rw [e]
  have hw := @rwithin_run m (by omega)
  unfold ckF
  rw [ok_ref]
  cases h1 : inR c.a 0 2048 <;> cases h2 : inR c.b 0 2048 <;> cases h3 : (c.a == c.b) <;> cases h4 : inR c.lo (-100000) 100000 <;> cases h5 : inR c.hi c.lo 100000 <;> cases h6 : inR c.by_ 1 99999 <;>
    simp [k172, Env.v_ini, clD, clC, D.cells, D.one, hw, bne, h1, h2, h3, h4, h5, h6]
end Go.Proofs.YtlfknfknlcgfcaaGreatDoor
