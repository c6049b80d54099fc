/- Entries: which are valid, by the program and by the document. -/
import Derived.Test.YtkbamkdgiglljaaGreatWa
namespace Go.Proofs.YtkbamkdgiglljaaGreat
open Go Go.Em
set_option maxRecDepth 100000
structure Ent where
  o : Int
  s : Int
  k : Int
  h : Int
  r : Int
  fo : Int
  fs : Int
  t : List UInt8
def entL (x : Ent) : List D := [D.int x.o, D.int x.s, D.int x.k, D.int x.h, D.int x.r, D.int x.fo, D.int x.fs, strD x.t]
def entD (x : Ent) : D := .agg (entL x)
def inR (n lo hi : Int) : Bool := decide (lo ≤ n ∧ n ≤ hi)
theorem inR_eq {n lo hi : Int} : inR n lo hi = (decide (lo ≤ n) && decide (n ≤ hi)) := by unfold inR; by_cases h1 : lo ≤ n <;> by_cases h2 : n ≤ hi <;> simp [h1, h2]
theorem inR_iff {n lo hi : Int} : inR n lo hi = true ↔ lo ≤ n ∧ n ≤ hi := by unfold inR; simp
theorem within_run {n : Nat} (hn : 1 ≤ n) (a lo hi : Int) : pureCall (rc pg n) 39 [D.int a, D.int lo, D.int hi] = some (.ret (D.bool (inR a lo hi))) := by
  obtain ⟨m, rfl, e⟩ := body (pg := pg) (f := 39) (args := [D.int a, D.int lo, D.int hi]) hn rfl rfl
  rw [e, inR_eq]
  by_cases h1 : lo ≤ a <;> simp [k39, Env.v_ini, h1]
theorem rwithin_run {n : Nat} (hn : 1 ≤ n) (a lo hi : Int) : pureCall (rc pg n) 47 [D.int a, D.int lo, D.int hi] = some (.ret (D.bool (inR a lo hi))) := by
  obtain ⟨m, rfl, e⟩ := body (pg := pg) (f := 47) (args := [D.int a, D.int lo, D.int hi]) hn rfl rfl
  rw [e, inR_eq]
  by_cases h1 : lo ≤ a <;> simp [k47, Env.v_ini, h1]
theorem within_c {n : Nat} (hn : 1 ≤ n) (a lo hi : Int) (h : Heap) : call pg (rc pg n) 39 [D.int a, D.int lo, D.int hi] h = some (.ret (D.bool (inR a lo hi)), h) := call_of rfl rfl (within_run hn a lo hi)
theorem rwithin_c {n : Nat} (hn : 1 ≤ n) (a lo hi : Int) (h : Heap) : call pg (rc pg n) 47 [D.int a, D.int lo, D.int hi] h = some (.ret (D.bool (inR a lo hi)), h) := call_of rfl rfl (rwithin_run hn a lo hi)
def plF (o s : Int) : Bool := inR o 0 7 && inR s 0 9999
def plD (o s : Int) : D := .agg [D.int o, D.int s]
theorem isOffice_run {n : Nat} (hn : 2 ≤ n) (a : Int) : pureCall (rc pg n) 62 [D.int a] = some (.ret (D.bool (inR a 0 7))) := by
  obtain ⟨m, rfl, e⟩ := body (pg := pg) (f := 62) (args := [D.int a]) (show 0 < n by omega) rfl rfl
  rw [e]
  have hw := @within_c m (by omega)
  simp [k62, Env.v_ini, hw]
theorem isPlace_run {n : Nat} (hn : 3 ≤ n) (o s : Int) : pureCall (rc pg n) 44 [plD o s] = some (.ret (D.bool (plF o s))) := by
  obtain ⟨m, rfl, e⟩ := body (pg := pg) (f := 44) (args := [plD o s]) (show 0 < n by omega) rfl rfl
  rw [e]
  have hw := @within_c m (by omega)
  have ho := fun h => call_of (h := h) (pg := pg) (f := 62) rfl rfl (isOffice_run (n := m) (by omega) o)
  unfold plF plD
  cases h1 : inR o 0 7 <;> simp [k44, Env.v_ini, hw, ho, h1, D.cells, D.one]
theorem rplace_run {n : Nat} (hn : 3 ≤ n) (o s : Int) : pureCall (rc pg n) 46 [plD o s] = some (.ret (D.bool (plF o s))) := by
  obtain ⟨m, rfl, e⟩ := body (pg := pg) (f := 46) (args := [plD o s]) (show 0 < n by omega) rfl rfl
  rw [e]
  have hw := @rwithin_c m (by omega)
  unfold plF plD
  cases h1 : inR o 0 7 <;> simp [k46, Env.v_ini, hw, h1, D.cells, D.one]
theorem base_run {n : Nat} (hn : 2 ≤ n) (a : Int) : pureCall (rc pg n) 48 [D.int a] = some (.ret (D.bool (inR a 1 5))) := by
  obtain ⟨m, rfl, e⟩ := body (pg := pg) (f := 48) (args := [D.int a]) (show 0 < n by omega) rfl rfl
  rw [e]
  have hw := @rwithin_c m (by omega)
  simp [k48, Env.v_ini, hw]
theorem isBase_run {n : Nat} (hn : 2 ≤ n) (x : Ent) : pureCall (rc pg n) 64 [entD x] = some (.ret (D.bool (inR x.k 1 5))) := by
  obtain ⟨m, rfl, e⟩ := body (pg := pg) (f := 64) (args := [entD x]) (show 0 < n by omega) rfl rfl
  rw [e]
  have hw := @within_c m (by omega)
  simp [k64, Env.v_ini, hw, entD, entL, strD, D.cells, D.one, Value.oneCell']
def sutF (x : Ent) : Bool := if inR x.k 1 5 = true then (x.fo == 0 && x.fs == 0) && decide (x.t.length ≤ 8000) else (inR x.k 6 9 && plF x.fo x.fs) && decide ((x.t.length : Int) ≤ if (x.k == 6) = true then 8000 else 0)
theorem entD_can (x : Ent) : D.canonL [entD x] = true := rfl
set_option maxHeartbeats 4000000 in
theorem suits_run {n : Nat} (hn : 4 ≤ n) (x : Ent) : pureCall (rc pg n) 45 [entD x] = some (.ret (D.bool (sutF x))) := by
  obtain ⟨m, rfl, e⟩ := body (pg := pg) (f := 45) (args := [entD x]) (show 0 < n by omega) rfl rfl
  rw [e]
  have hw := @within_c m (by omega)
  have hb := fun h => call_of (h := h) (pg := pg) (f := 64) rfl (entD_can x) (isBase_run (n := m) (by omega) x)
  have hp := fun h => call_of (h := h) (pg := pg) (f := 44) (args := [plD x.fo x.fs]) rfl rfl (isPlace_run (n := m) (by omega) x.fo x.fs)
  unfold sutF
  simp only [plD, entD, entL, strD] at hp hb ⊢
  cases h1 : inR x.k 1 5 with
  | true =>
    rw [h1] at hb
    cases h2 : (x.fo == 0) <;> cases h3 : (x.fs == 0) <;> simp [-beq_iff_eq, -beq_eq_false_iff_ne, k45, Env.v_ini, hb, h2, h3, D.cells, D.one, Value.oneCell', str_size]
    all_goals omega
  | false =>
    rw [h1] at hb
    cases h6 : (x.k == 6) <;> cases h7 : inR x.k 6 9 <;> cases h8 : plF x.fo x.fs <;> rw [h8] at hp <;> simp [-beq_iff_eq, -beq_eq_false_iff_ne, k45, Env.v_ini, hb, hw, hp, h6, h7, D.cells, D.one, Value.oneCell', str_size]
def okF (x : Ent) : Bool := ((plF x.o x.s && sutF x) && inR x.h 0 100000) && inR x.r 0 99
def erI (b : Bool) (n : Int) : D := D.int (if b = true then 0 else n)
set_option maxHeartbeats 4000000 in
theorem check_run {n : Nat} (hn : 5 ≤ n) (x : Ent) : pureCall (rc pg n) 13 [entD x] = some (.ret (erI (okF x) 80)) := by
  obtain ⟨m, rfl, e⟩ := body (pg := pg) (f := 13) (args := [entD x]) (show 0 < n by omega) rfl rfl
  rw [e]
  have hw := @within_c m (by omega)
  have hb := fun h => call_of (h := h) (pg := pg) (f := 45) rfl (entD_can x) (suits_run (n := m) (by omega) x)
  have hp := fun h => call_of (h := h) (pg := pg) (f := 44) (args := [plD x.o x.s]) rfl rfl (isPlace_run (n := m) (by omega) x.o x.s)
  unfold okF erI
  simp only [plD, entD, entL, strD] at hp hb ⊢
  cases h1 : plF x.o x.s <;> rw [h1] at hp <;> cases h2 : sutF x <;> rw [h2] at hb <;> cases h3 : inR x.h 0 100000 <;> cases h4 : inR x.r 0 99 <;> simp [k13, Env.v_ini, hb, hw, hp, h3, h4, D.cells, D.one, Value.oneCell']
def rokF (x : Ent) : Bool := (plF x.o x.s && inR x.k 1 9 && inR x.h 0 100000 && inR x.r 0 99 && decide (x.t.length ≤ 8000)) && ((!inR x.k 1 5 || (x.fo == 0 && x.fs == 0)) && (inR x.k 1 5 || plF x.fo x.fs) && (decide (x.k ≤ 6) || x.t == []))
theorem rok_ok (x : Ent) : rokF x = okF x := by
  unfold rokF okF sutF
  have e0 : (x.t == []) = decide (x.t.length = 0) := by cases x.t <;> simp
  rw [e0]
  generalize plF x.o x.s = A
  generalize plF x.fo x.fs = B
  generalize (x.fo == 0 && x.fs == 0) = C
  generalize inR x.h 0 100000 = H
  generalize inR x.r 0 99 = R
  generalize x.t.length = n
  have key : ((inR x.k 1 9 && decide (n ≤ 8000)) && ((!inR x.k 1 5 || C) && (inR x.k 1 5 || B) && (decide (x.k ≤ 6) || decide (n = 0)))) = (if inR x.k 1 5 = true then C && decide (n ≤ 8000) else (inR x.k 6 9 && B) && decide ((n : Int) ≤ if (x.k == 6) = true then 8000 else 0)) := by
    by_cases h1 : 1 ≤ x.k ∧ x.k ≤ 5
    · have a1 : inR x.k 1 5 = true := inR_iff.2 h1
      have a2 : inR x.k 1 9 = true := inR_iff.2 (by omega)
      have a3 : decide (x.k ≤ 6) = true := decide_eq_true (by omega)
      rw [a1, a2, a3]
      cases C <;> simp
    · have a1 : inR x.k 1 5 = false := by rw [← Bool.not_eq_true, inR_iff]; exact h1
      rw [a1]
      by_cases h2 : 6 ≤ x.k ∧ x.k ≤ 9
      · have a2 : inR x.k 1 9 = true := inR_iff.2 (by omega)
        have a3 : inR x.k 6 9 = true := inR_iff.2 h2
        rw [a2, a3]
        by_cases h6 : x.k = 6
        · rw [h6]
          cases B <;> simp <;> omega
        · have a4 : decide (x.k ≤ 6) = false := decide_eq_false (by omega)
          have a5 : (x.k == 6) = false := by simpa using h6
          rw [a4, a5]
          cases B <;> simp <;> omega
      · have a2 : inR x.k 1 9 = false := by rw [← Bool.not_eq_true, inR_iff]; omega
        have a3 : inR x.k 6 9 = false := by rw [← Bool.not_eq_true, inR_iff]; exact h2
        rw [a2, a3]; simp
  rw [← key]
  cases A <;> cases H <;> cases R <;> simp [Bool.and_assoc]
set_option maxHeartbeats 8000000 in
theorem rcheck_run {n : Nat} (hn : 5 ≤ n) (x : Ent) : pureCall (rc pg n) 14 [entD x] = some (.ret (erI (okF x) 80)) := by
  obtain ⟨m, rfl, e⟩ := body (pg := pg) (f := 14) (args := [entD x]) (show 0 < n by omega) rfl rfl
  rw [e, ← rok_ok]
  have hw := @rwithin_c m (by omega)
  have hb := fun h => call_of (h := h) (pg := pg) (f := 48) (args := [D.int x.k]) rfl rfl (base_run (n := m) (by omega) x.k)
  have hp := fun h => call_of (h := h) (pg := pg) (f := 46) (args := [plD x.o x.s]) rfl rfl (rplace_run (n := m) (by omega) x.o x.s)
  have hq := fun h => call_of (h := h) (pg := pg) (f := 46) (args := [plD x.fo x.fs]) rfl rfl (rplace_run (n := m) (by omega) x.fo x.fs)
  unfold rokF erI
  simp only [plD, entD, entL, strD] at hp hq ⊢
  obtain ⟨b1, e1⟩ : ∃ b, b = decide (8000 < (x.t.length : Int)) := ⟨_, rfl⟩
  obtain ⟨b2, e2⟩ : ∃ b, b = decide (6 < x.k) := ⟨_, rfl⟩
  have f1 : decide (x.t.length ≤ 8000) = !b1 := by rw [e1, ← decide_not]; congr 1; simp; omega
  have f2 : decide (x.k ≤ 6) = !b2 := by rw [e2, ← decide_not]; congr 1; simp
  rw [f1, f2]
  have st : bin .neq (.string ⟨x.t.toArray⟩) (.string ⟨#[]⟩) = some (.bool (!(x.t == []))) := by
    rw [bin_sneq, str_list, show ((⟨#[]⟩ : ByteArray).toList) = [] from str_list []]
  cases h1 : plF x.o x.s <;> rw [h1] at hp <;> cases h2 : inR x.k 1 9 <;> cases h3 : inR x.h 0 100000 <;> cases h4 : inR x.r 0 99 <;> cases b1 <;> simp [k14, Env.v_ini, hw, hp, h2, h3, h4, D.cells, D.one, Value.oneCell', str_size, ← e1]
  have st2 : bin .neq (.string ⟨x.t.toArray⟩) (.string ByteArray.empty) = some (.bool (!(x.t == []))) := st
  cases h5 : inR x.k 1 5 <;> rw [h5] at hb <;> cases h6 : (x.fo == 0) <;> cases h7 : (x.fs == 0) <;> cases h8 : plF x.fo x.fs <;> rw [h8] at hq <;> cases b2 <;> cases h9 : (x.t == []) <;> simp [-beq_iff_eq, -beq_eq_false_iff_ne, -bin_sneq, hw, hb, hq, h3, h6, h7, h9, st, st2, ← e2]
  all_goals (simp at h6 h7 h9; simp [h6, h7, h9])
end Go.Proofs.YtkbamkdgiglljaaGreat
