/- Entries: which are valid, by the program and by the document. -/
import Derived.Test.YtkbamkdgiglljaaWa
namespace Go.Proofs.Ytkbamkdgiglljaa
open Go Go.Em
set_option maxRecDepth 100000
structure Ent where
  o : Int
  s : Int
  k : Int
  h : Int
  r : Int
  fo : Int
  fs : Int
  t : List UInt8
def entL (x : Ent) : List D := [D.int x.o, D.int x.s, D.int x.k, D.int x.h, D.int x.r, D.int x.fo, D.int x.fs, strD x.t]
def entD (x : Ent) : D := .agg (entL x)
def inR (n lo hi : Int) : Bool := decide (lo ≤ n ∧ n ≤ hi)
theorem inR_eq {n lo hi : Int} : inR n lo hi = (decide (lo ≤ n) && decide (n ≤ hi)) := by unfold inR; by_cases h1 : lo ≤ n <;> by_cases h2 : n ≤ hi <;> simp [h1, h2]
theorem inR_iff {n lo hi : Int} : inR n lo hi = true ↔ lo ≤ n ∧ n ≤ hi := by unfold inR; simp
theorem within_run {n : Nat} (hn : 1 ≤ n) (a lo hi : Int) : pureCall (rc pg n) 10 [D.int a, D.int lo, D.int hi] = some (.ret (D.bool (inR a lo hi))) := by
  obtain ⟨m, rfl, e⟩ := body (pg := pg) (f := 10) (args := [D.int a, D.int lo, D.int hi]) hn rfl rfl
  rw [e, inR_eq]
  by_cases h1 : lo ≤ a <;> simp [k10, Env.v_ini, h1]
theorem within_c {n : Nat} (hn : 1 ≤ n) (a lo hi : Int) (h : Heap) : call pg (rc pg n) 10 [D.int a, D.int lo, D.int hi] h = some (.ret (D.bool (inR a lo hi)), h) := call_of rfl rfl (within_run hn a lo hi)
def plF (o s : Int) : Bool := inR o 0 7 && inR s 0 9999
def plD (o s : Int) : D := .agg [D.int o, D.int s]
theorem isOffice_run {n : Nat} (hn : 2 ≤ n) (a : Int) : pureCall (rc pg n) 39 [D.int a] = some (.ret (D.bool (inR a 0 7))) := by
  obtain ⟨m, rfl, e⟩ := body (pg := pg) (f := 39) (args := [D.int a]) (show 0 < n by omega) rfl rfl
  rw [e]
  have hw := @within_c m (by omega)
  simp [k39, Env.v_ini, hw]
theorem isPlace_run {n : Nat} (hn : 3 ≤ n) (o s : Int) : pureCall (rc pg n) 20 [plD o s] = some (.ret (D.bool (plF o s))) := by
  obtain ⟨m, rfl, e⟩ := body (pg := pg) (f := 20) (args := [plD o s]) (show 0 < n by omega) rfl rfl
  rw [e]
  have hw := @within_c m (by omega)
  have ho := fun h => call_of (h := h) (pg := pg) (f := 39) rfl rfl (isOffice_run (n := m) (by omega) o)
  unfold plF plD
  cases h1 : inR o 0 7 <;> simp [k20, Env.v_ini, hw, ho, h1, D.cells, D.one]
theorem isBase_run {n : Nat} (hn : 2 ≤ n) (x : Ent) : pureCall (rc pg n) 25 [entD x] = some (.ret (D.bool (inR x.k 1 5))) := by
  obtain ⟨m, rfl, e⟩ := body (pg := pg) (f := 25) (args := [entD x]) (show 0 < n by omega) rfl rfl
  rw [e]
  have hw := @within_c m (by omega)
  simp [k25, Env.v_ini, hw, entD, entL, strD, D.cells, D.one, Value.oneCell']
def sutF (x : Ent) : Bool := if inR x.k 1 5 = true then (x.fo == 0 && x.fs == 0) && decide (x.t.length ≤ 8000) else (inR x.k 6 9 && plF x.fo x.fs) && decide ((x.t.length : Int) ≤ if (x.k == 6) = true then 8000 else 0)
theorem entD_can (x : Ent) : D.canonL [entD x] = true := rfl
set_option maxHeartbeats 4000000 in
theorem suits_run {n : Nat} (hn : 4 ≤ n) (x : Ent) : pureCall (rc pg n) 21 [entD x] = some (.ret (D.bool (sutF x))) := by
  obtain ⟨m, rfl, e⟩ := body (pg := pg) (f := 21) (args := [entD x]) (show 0 < n by omega) rfl rfl
  rw [e]
  have hw := @within_c m (by omega)
  have hb := fun h => call_of (h := h) (pg := pg) (f := 25) rfl (entD_can x) (isBase_run (n := m) (by omega) x)
  have hp := fun h => call_of (h := h) (pg := pg) (f := 20) (args := [plD x.fo x.fs]) rfl rfl (isPlace_run (n := m) (by omega) x.fo x.fs)
  unfold sutF
  simp only [plD, entD, entL, strD] at hp hb ⊢
  cases h1 : inR x.k 1 5 with
  | true =>
    rw [h1] at hb
    cases h2 : (x.fo == 0) <;> cases h3 : (x.fs == 0) <;> simp [-beq_iff_eq, -beq_eq_false_iff_ne, k21, Env.v_ini, hb, h2, h3, D.cells, D.one, Value.oneCell', str_size]
    all_goals omega
  | false =>
    rw [h1] at hb
    cases h6 : (x.k == 6) <;> cases h7 : inR x.k 6 9 <;> cases h8 : plF x.fo x.fs <;> rw [h8] at hp <;> simp [-beq_iff_eq, -beq_eq_false_iff_ne, k21, Env.v_ini, hb, hw, hp, h6, h7, D.cells, D.one, Value.oneCell', str_size]
def okF (x : Ent) : Bool := ((plF x.o x.s && sutF x) && inR x.h 0 100000) && inR x.r 0 99
def erI (b : Bool) (n : Int) : D := D.int (if b = true then 0 else n)
set_option maxHeartbeats 4000000 in
theorem check_run {n : Nat} (hn : 5 ≤ n) (x : Ent) : pureCall (rc pg n) 7 [entD x] = some (.ret (erI (okF x) 80)) := by
  obtain ⟨m, rfl, e⟩ := body (pg := pg) (f := 7) (args := [entD x]) (show 0 < n by omega) rfl rfl
  rw [e]
  have hw := @within_c m (by omega)
  have hb := fun h => call_of (h := h) (pg := pg) (f := 21) rfl (entD_can x) (suits_run (n := m) (by omega) x)
  have hp := fun h => call_of (h := h) (pg := pg) (f := 20) (args := [plD x.o x.s]) rfl rfl (isPlace_run (n := m) (by omega) x.o x.s)
  unfold okF erI
  simp only [plD, entD, entL, strD] at hp hb ⊢
  cases h1 : plF x.o x.s <;> rw [h1] at hp <;> cases h2 : sutF x <;> rw [h2] at hb <;> cases h3 : inR x.h 0 100000 <;> cases h4 : inR x.r 0 99 <;> simp [k7, Env.v_ini, hb, hw, hp, h3, h4, D.cells, D.one, Value.oneCell']
end Go.Proofs.Ytkbamkdgiglljaa
