/- Entries: which are valid, by the program and by the document. -/
import Derived.Test.YtkbamkdgiglljaaGreatWa
namespace Go.Proofs.YtkbamkdgiglljaaGreat
open Go Go.Em
set_option maxRecDepth 100000
structure Ent where
  o : Int
  s : Int
  k : Int
  h : Int
  r : Int
  fo : Int
  fs : Int
  t : List UInt8
def entL (x : Ent) : List D := [D.int x.o, D.int x.s, D.int x.k, D.int x.h, D.int x.r, D.int x.fo, D.int x.fs, strD x.t]
def entD (x : Ent) : D := .agg (entL x)
def inR (n lo hi : Int) : Bool := decide (lo ≤ n ∧ n ≤ hi)
theorem inR_eq {n lo hi : Int} : inR n lo hi = (decide (lo ≤ n) && decide (n ≤ hi)) := by unfold inR; by_cases h1 : lo ≤ n <;> by_cases h2 : n ≤ hi <;> simp [h1, h2]
theorem inR_iff {n lo hi : Int} : inR n lo hi = true ↔ lo ≤ n ∧ n ≤ hi := by unfold inR; simp
theorem within_run {n : Nat} (hn : 1 ≤ n) (a lo hi : Int) : pureCall (rc pg n) 39 [D.int a, D.int lo, D.int hi] = some (.ret (D.bool (inR a lo hi))) := by
  obtain ⟨m, rfl, e⟩ := body (pg := pg) (f := 39) (args := [D.int a, D.int lo, D.int hi]) hn rfl rfl
  rw [e, inR_eq]
  by_cases h1 : lo ≤ a <;> simp [k39, Env.v_ini, h1]
theorem rwithin_run {n : Nat} (hn : 1 ≤ n) (a lo hi : Int) : pureCall (rc pg n) 47 [D.int a, D.int lo, D.int hi] = some (.ret (D.bool (inR a lo hi))) := by
  obtain ⟨m, rfl, e⟩ := body (pg := pg) (f := 47) (args := [D.int a, D.int lo, D.int hi]) hn rfl rfl
  rw [e, inR_eq]
  by_cases h1 : lo ≤ a <;> simp [k47, Env.v_ini, h1]
theorem within_c {n : Nat} (hn : 1 ≤ n) (a lo hi : Int) (h : Heap) : call pg (rc pg n) 39 [D.int a, D.int lo, D.int hi] h = some (.ret (D.bool (inR a lo hi)), h) := call_of rfl rfl (within_run hn a lo hi)
theorem rwithin_c {n : Nat} (hn : 1 ≤ n) (a lo hi : Int) (h : Heap) : call pg (rc pg n) 47 [D.int a, D.int lo, D.int hi] h = some (.ret (D.bool (inR a lo hi)), h) := call_of rfl rfl (rwithin_run hn a lo hi)
def plF (o s : Int) : Bool := inR o 0 7 && inR s 0 9999
def plD (o s : Int) : D := .agg [D.int o, D.int s]
theorem isOffice_run {n : Nat} (hn : 2 ≤ n) (a : Int) : pureCall (rc pg n) 62 [D.int a] = some (.ret (D.bool (inR a 0 7))) := by
  obtain ⟨m, rfl, e⟩ := body (pg := pg) (f := 62) (args := [D.int a]) (show 0 < n by omega) rfl rfl
  rw [e]
  have hw := @within_c m (by omega)
  simp [k62, Env.v_ini, hw]
theorem isPlace_run {n : Nat} (hn : 3 ≤ n) (o s : Int) : pureCall (rc pg n) 44 [plD o s] = some (.ret (D.bool (plF o s))) := by
  obtain ⟨m, rfl, e⟩ := body (pg := pg) (f := 44) (args := [plD o s]) (show 0 < n by omega) rfl rfl
  rw [e]
  have hw := @within_c m (by omega)
  have ho := fun h => call_of (h := h) (pg := pg) (f := 62) rfl rfl (isOffice_run (n := m) (by omega) o)
  unfold plF plD
  cases h1 : inR o 0 7 <;> simp [k44, Env.v_ini, hw, ho, h1, D.cells, D.one]
theorem rplace_run {n : Nat} (hn : 3 ≤ n) (o s : Int) : pureCall (rc pg n) 46 [plD o s] = some (.ret (D.bool (plF o s))) := by
  obtain ⟨m, rfl, e⟩ := body (pg := pg) (f := 46) (args := [plD o s]) (show 0 < n by omega) rfl rfl
  rw [e]
  have hw := @rwithin_c m (by omega)
  unfold plF plD
  cases h1 : inR o 0 7 <;> simp [k46, Env.v_ini, hw, h1, D.cells, D.one]
theorem base_run {n : Nat} (hn : 2 ≤ n) (a : Int) : pureCall (rc pg n) 48 [D.int a] = some (.ret (D.bool (inR a 1 5))) := by
  obtain ⟨m, rfl, e⟩ := body (pg := pg) (f := 48) (args := [D.int a]) (show 0 < n by omega) rfl rfl
  rw [e]
  have hw := @rwithin_c m (by omega)
  simp [k48, Env.v_ini, hw]
theorem isBase_run {n : Nat} (hn : 2 ≤ n) (x : Ent) : pureCall (rc pg n) 64 [entD x] = some (.ret (D.bool (inR x.k 1 5))) := by
  obtain ⟨m, rfl, e⟩ := body (pg := pg) (f := 64) (args := [entD x]) (show 0 < n by omega) rfl rfl
  rw [e]
  have hw := @within_c m (by omega)
  simp [k64, Env.v_ini, hw, entD, entL, strD, D.cells, D.one, Value.oneCell']
def sutF (x : Ent) : Bool := if inR x.k 1 5 = true then (x.fo == 0 && x.fs == 0) && decide (x.t.length ≤ 8000) else (inR x.k 6 9 && plF x.fo x.fs) && decide ((x.t.length : Int) ≤ if (x.k == 6) = true then 8000 else 0)
theorem entD_can (x : Ent) : D.canonL [entD x] = true := rfl
set_option maxHeartbeats 4000000 in
theorem suits_run {n : Nat} (hn : 4 ≤ n) (x : Ent) : pureCall (rc pg n) 45 [entD x] = some (.ret (D.bool (sutF x))) := by
  obtain ⟨m, rfl, e⟩ := body (pg := pg) (f := 45) (args := [entD x]) (show 0 < n by omega) rfl rfl
  rw [e]
  have hw := @within_c m (by omega)
  have hb := fun h => call_of (h := h) (pg := pg) (f := 64) rfl (entD_can x) (isBase_run (n := m) (by omega) x)
  have hp := fun h => call_of (h := h) (pg := pg) (f := 44) (args := [plD x.fo x.fs]) rfl rfl (isPlace_run (n := m) (by omega) x.fo x.fs)
  unfold sutF
  simp only [plD, entD, entL, strD] at hp hb ⊢
  cases h1 : inR x.k 1 5 with
  | true =>
    rw [h1] at hb
    cases h2 : (x.fo == 0) <;> cases h3 : (x.fs == 0) <;> simp [-beq_iff_eq, -beq_eq_false_iff_ne, k45, Env.v_ini, hb, h2, h3, D.cells, D.one, Value.oneCell', str_size]
    all_goals omega
  | false =>
    rw [h1] at hb
    cases h6 : (x.k == 6) <;> cases h7 : inR x.k 6 9 <;> cases h8 : plF x.fo x.fs <;> rw [h8] at hp <;> simp [-beq_iff_eq, -beq_eq_false_iff_ne, k45, Env.v_ini, hb, hw, hp, h6, h7, D.cells, D.one, Value.oneCell', str_size]
def okF (x : Ent) : Bool := ((plF x.o x.s && sutF x) && inR x.h 0 100000) && inR x.r 0 99
def erI (b : Bool) (n : Int) : D := D.int (if b = true then 0 else n)
set_option maxHeartbeats 4000000 in
theorem check_run {n : Nat} (hn : 5 ≤ n) (x : Ent) : pureCall (rc pg n) 13 [entD x] = some (.ret (erI (okF x) 80)) := by
  obtain ⟨m, rfl, e⟩ := body (pg := pg) (f := 13) (args := [entD x]) (show 0 < n by omega) rfl rfl
  rw [e]
  have hw := @within_c m (by omega)
  have hb := fun h => call_of (h := h) (pg := pg) (f := 45) rfl (entD_can x) (suits_run (n := m) (by omega) x)
  have hp := fun h => call_of (h := h) (pg := pg) (f := 44) (args := [plD x.o x.s]) rfl rfl (isPlace_run (n := m) (by omega) x.o x.s)
  unfold okF erI
  simp only [plD, entD, entL, strD] at hp hb ⊢
  cases h1 : plF x.o x.s <;> rw [h1] at hp <;> cases h2 : sutF x <;> rw [h2] at hb <;> cases h3 : inR x.h 0 100000 <;> cases h4 : inR x.r 0 99 <;> simp [k13, Env.v_ini, hb, hw, hp, h3, h4, D.cells, D.one, Value.oneCell']
def rokF (x : Ent) : Bool := (plF x.o x.s && inR x.k 1 9 && inR x.h 0 100000 && inR x.r 0 99 && decide (x.t.length ≤ 8000)) && ((!inR x.k 1 5 || (x.fo == 0 && x.fs == 0)) && (inR x.k 1 5 || plF x.fo x.fs) && (decide (x.k ≤ 6) || x.t == []))
theorem rok_ok (x : Ent) : rokF x = okF x := by
  unfold rokF okF sutF
  have e0 : (x.t == []) = decide (x.t.length = 0) := by cases x.t <;> simp
  rw [e0]
  generalize plF x.o x.s = A
  generalize plF x.fo x.fs = B
  generalize (x.fo == 0 && x.fs == 0) = C
  generalize inR x.h 0 100000 = H
  generalize inR x.r 0 99 = R
  generalize x.t.length = n
  have key : ((inR x.k 1 9 && decide (n ≤ 8000)) && ((!inR x.k 1 5 || C) && (inR x.k 1 5 || B) && (decide (x.k ≤ 6) || decide (n = 0)))) = (if inR x.k 1 5 = true then C && decide (n ≤ 8000) else (inR x.k 6 9 && B) && decide ((n : Int) ≤ if (x.k == 6) = true then 8000 else 0)) := by
    by_cases h1 : 1 ≤ x.k ∧ x.k ≤ 5
    · have a1 : inR x.k 1 5 = true := inR_iff.2 h1
      have a2 : inR x.k 1 9 = true := inR_iff.2 (by omega)
      have a3 : decide (x.k ≤ 6) = true := decide_eq_true (by omega)
      rw [a1, a2, a3]
      cases C <;> simp
    · have a1 : inR x.k 1 5 = false := by rw [← Bool.not_eq_true, inR_iff]; exact h1
      rw [a1]
      by_cases h2 : 6 ≤ x.k ∧ x.k ≤ 9
      · have a2 : inR x.k 1 9 = true := inR_iff.2 (by omega)
        have a3 : inR x.k 6 9 = true := inR_iff.2 h2
        rw [a2, a3]
        by_cases h6 : x.k = 6
        · rw [h6]
          cases B <;> simp <;> omega
        · have a4 : decide (x.k ≤ 6) = false := decide_eq_false (by omega)
          have a5 : (x.k == 6) = false := by simpa using h6
          rw [a4, a5]
          cases B <;> simp <;> omega
      · have a2 : inR x.k 1 9 = false := by rw [← Bool.not_eq_true, inR_iff]; omega
        have a3 : inR x.k 6 9 = false := by rw [← Bool.not_eq_true, inR_iff]; exact h2
        rw [a2, a3]; simp
  rw [← key]
  cases A <;> cases H <;> cases R <;> simp [Bool.and_assoc]
set_option maxHeartbeats 8000000 in
theorem rcheck_run {n : Nat} (hn : 5 ≤ n) (x : Ent) : pureCall (rc pg n) 14 [entD x] = some (.ret (erI (okF x) 80)) := by
  obtain ⟨m, rfl, e⟩ := body (pg := pg) (f := 14) (args := [entD x]) (show 0 < n by omega) rfl rfl
  rw [e, ← rok_ok]
  have hw := @rwithin_c m (by omega)
  have hb := fun h => call_of (h := h) (pg := pg) (f := 48) (args := [D.int x.k]) rfl rfl (base_run (n := m) (by omega) x.k)
  have hp := fun h => call_of (h := h) (pg := pg) (f := 46) (args := [plD x.o x.s]) rfl rfl (rplace_run (n := m) (by omega) x.o x.s)
  have hq := fun h => call_of (h := h) (pg := pg) (f := 46) (args := [plD x.fo x.fs]) rfl rfl (rplace_run (n := m) (by omega) x.fo x.fs)
  unfold rokF erI
  simp only [plD, entD, entL, strD] at hp hq ⊢
  obtain ⟨b1, e1⟩ : ∃ b, b = decide (8000 < (x.t.length : Int)) := ⟨_, rfl⟩
  obtain ⟨b2, e2⟩ : ∃ b, b = decide (6 < x.k) := ⟨_, rfl⟩
  have f1 : decide (x.t.length ≤ 8000) = !b1 := by rw [e1, ← decide_not]; congr 1; simp; omega
  have f2 : decide (x.k ≤ 6) = !b2 := by rw [e2, ← decide_not]; congr 1; simp
  rw [f1, f2]
  have st : bin .neq (.string ⟨x.t.toArray⟩) (.string ⟨#[]⟩) = some (.bool (!(x.t == []))) := by
    rw [bin_sneq, str_list, show ((⟨#[]⟩ : ByteArray).toList) = [] from str_list []]
  cases h1 : plF x.o x.s <;> rw [h1] at hp <;> cases h2 : inR x.k 1 9 <;> cases h3 : inR x.h 0 100000 <;> cases h4 : inR x.r 0 99 <;> cases b1 <;> simp [k14, Env.v_ini, hw, hp, h2, h3, h4, D.cells, D.one, Value.oneCell', str_size, ← e1]
  have st2 : bin .neq (.string ⟨x.t.toArray⟩) (.string ByteArray.empty) = some (.bool (!(x.t == []))) := st
  cases h5 : inR x.k 1 5 <;> rw [h5] at hb <;> cases h6 : (x.fo == 0) <;> cases h7 : (x.fs == 0) <;> cases h8 : plF x.fo x.fs <;> rw [h8] at hq <;> cases b2 <;> cases h9 : (x.t == []) <;> simp [-beq_iff_eq, -beq_eq_false_iff_ne, -bin_sneq, hw, hb, hq, h3, h6, h7, h9, st, st2, ← e2]
  all_goals (simp at h6 h7 h9; simp [h6, h7, h9])
end Go.Proofs.YtkbamkdgiglljaaGreat
/- Numbers as four bytes, written and read by the program and by the document. -/
namespace Go.Proofs.YtkbamkdgiglljaaGreat
open Go Go.Em
set_option maxRecDepth 100000
theorem call_sh {pg : Pg} {R : Rc} {f : FuncId} {args : List D} {h h' : Heap} {o : Out} (hs : pg.sh f = true) (x : R.fn f args h = some (o, h')) : call pg R f args h = some (o, h') := by
  simp [call, hs, x]
def fourL (n : Nat) : List UInt8 := [UInt8.ofNat (n / 16777216), UInt8.ofNat (n / 65536), UInt8.ofNat (n / 256), UInt8.ofNat n]
def fourN (n : Nat) : List D := [u1D (n / 16777216 % 256), u1D (n / 65536 % 256), u1D (n / 256 % 256), u1D (n % 256)]
theorem fourN_eq (n : Nat) : fourN n = bL (fourL n) := by
  simp [fourN, fourL, bL]
def PnI (k o N : Nat) (cap : Option Nat) (ty : TypeId) (A B : List D) (a : Nat) (h0 : Heap) (i : Nat) (s : St) : Prop := ∃ (x : Env 18) (h : Heap) (j : Nat) (M : List D), s = ⟨x.l, h, []⟩ ∧ j + i = 4 ∧ x.v 0 = .slr k o N 1 cap ∧ x.v 1 = u4D a ∧ x.v 5 = D.int j ∧ h.get k = some (.cells ty (A ++ ((fourN a).take j ++ (M ++ B)))) ∧ M.length = 4 - j ∧ (∀ q, q ≠ k → h.raw q = h0.raw q) ∧ h0.next ≤ h.next
theorem put_at {A F : List D} {m0 d : D} {M B : List D} {o j : Nat} (hA : A.length = o) (hF : F.length = j) : (A ++ (F ++ (m0 :: M ++ B))).take (o + j) ++ d :: (A ++ (F ++ (m0 :: M ++ B))).drop (o + j + 1) = A ++ ((F ++ [d]) ++ (M ++ B)) := by
  have e1 : (A ++ (F ++ (m0 :: M ++ B))).take (o + j) = A ++ F := by
    rw [← List.append_assoc]; exact List.take_left' (by rw [List.length_append, hA, hF])
  have e2 : (A ++ (F ++ (m0 :: M ++ B))).drop (o + j + 1) = M ++ B := by
    rw [← List.append_assoc, show (A ++ F) ++ (m0 :: M ++ B) = ((A ++ F) ++ [m0]) ++ (M ++ B) by simp]
    exact List.drop_left' (by simp [hA, hF] <;> omega)
  rw [e1, e2]; simp
theorem four_step (a : Nat) {j : Nat} (hj : j < 4) : (fourN a).take (j + 1) = (fourN a).take j ++ [u1D (a / 2 ^ (24 - 8 * j) % 256)] := by
  obtain rfl | rfl | rfl | rfl : j = 0 ∨ j = 1 ∨ j = 2 ∨ j = 3 := by omega
  all_goals simp [fourN]
theorem pn_round (k o N : Nat) (cap : Option Nat) (ty : TypeId) (A B : List D) (a : Nat) (h0 : Heap) (hA : A.length = o) (hN : 4 ≤ N) : ∀ n, 1 ≤ n → ∀ i s, PnI k o N cap ty A B a h0 i s → Res (k35l0.ev ⟨pg, 18, none⟩ (rc pg n) s) (Rnd (PnI k o N cap ty A B a h0) (fun x s => x = .exit 0 ∧ PnI k o N cap ty A B a h0 0 s) i) := by
  rintro n hn i s ⟨x, h, j, M, rfl, hij, v0, v1, v5, g, hM, hq, n1⟩
  by_cases hj : j < 4
  · obtain ⟨t, ht⟩ : ∃ t : Nat, t = 24 - 8 * j := ⟨_, rfl⟩
    have w1 : IntKind.i64.wrap (8 * (j : Int)) = 8 * (j : Int) := wrap_i64 (by omega) (by omega)
    have w2 : IntKind.i64.wrap (24 - 8 * (j : Int)) = (t : Int) := by rw [wrap_i64 (by omega) (by omega)]; omega
    have w3 : IntKind.i64.wrap ((j : Int) + 1) = (j : Int) + 1 := wrap_i64 (by omega) (by omega)
    have hb : bin .shr (.int .u32 (a : Int)) (.int .i64 (t : Int)) = some (.int .u32 ((a / 2 ^ t : Nat) : Int)) := bin_shr32 (by omega)
    have hst := four_step a hj
    rw [← ht] at hst
    obtain ⟨q, hqd⟩ : ∃ q, q = a / 2 ^ t := ⟨_, rfl⟩
    rw [← hqd] at hb hst
    have wq := wrap_u8n q
    obtain ⟨m0, M', rfl⟩ : ∃ m0 M', M = m0 :: M' := by
      cases M with
      | nil => simp at hM; omega
      | cons m M => exact ⟨_, _, rfl⟩
    have hF : ((fourN a).take j).length = j := by simp [fourN]; omega
    have hu : u1D (q % 256) = .val (.int .u8 ((q : Int) % 256)) := by simp
    rw [hu] at hst
    have hp := put_at (m0 := m0) (d := .val (.int .u8 ((q : Int) % 256))) (M := M') (B := B) hA hF
    obtain ⟨C, hC⟩ : ∃ C, C = A ++ ((fourN a).take j ++ (m0 :: M' ++ B)) := ⟨_, rfl⟩
    rw [← hC] at g hp
    have hle : o + j + 1 ≤ C.length := by rw [hC]; simp [hA, hF]; omega
    have hlt : (j : Int) < (N : Int) := by omega
    have hj4 : (j : Int) < 4 := by omega
    have hlt' : j < N := by omega
    simp [k35l0, v0, v1, v5, hj, w1, w2, hb, wq, g, hle, hj4, hlt', hp, D.cells, D.one, Value.oneCell', w3]
    exact ⟨i - 1, by omega, _, _, j + 1, M', rfl, by omega, by simp [v0], by simp [v1], by simp, by simp [hst], by simp at hM; omega, fun z hz => by simp [hz, hq z hz], by simp; omega⟩
  · obtain rfl : j = 4 := by omega
    simp [k35l0, v5]
    exact ⟨_, _, 4, M, rfl, by omega, by simp [v0], by simp [v1], by simp [v5], by simp [g], hM, fun z hz => by simp [hq z hz], by simp; omega⟩
theorem putN_sh {k o N : Nat} {cap : Option Nat} {ty : TypeId} {A M B : List D} {a : Nat} {h0 : Heap} (hA : A.length = o) (hN : 4 ≤ N) (hM : M.length = 4) (hg : h0.get k = some (.cells ty (A ++ (M ++ B)))) {n : Nat} (hn : 20 ≤ n) :
    ∃ h, call pg (rc pg n) 35 [.slr k o N 1 cap, u4D a] h0 = some (.ret (.tup []), h) ∧ h.get k = some (.cells ty (A ++ (fourN a ++ B))) ∧ (∀ q, q ≠ k → h.raw q = h0.raw q) ∧ h0.next ≤ h.next := by
  obtain ⟨m, rfl, e⟩ := fn_body (pg := pg) (n := n) (f := 35) (args := [.slr k o N 1 cap, u4D a]) (h := h0) (show 0 < n by omega) rfl rfl
  obtain ⟨y, s, e1, rfl, x, h, j, M', rfl, hj, v0, v1, v5, g, hM', hq, n1⟩ := lp_rule 1 (PnI k o N cap ty A B a h0) _ (pn_round k o N cap ty A B a h0 hA hN) 4 m ⟨((Env.ini 18 [.slr k o N 1 cap, u4D a]).upd 5 (D.int 0)).l, h0.bump 18, []⟩ (by omega) ⟨_, _, 0, M, rfl, by omega, by simp [Env.v_ini], by simp [Env.v_ini], by simp, by simp [hg], by omega, fun q hq => by simp, by simp⟩
  obtain rfl : j = 4 := by omega
  obtain rfl : M' = [] := List.eq_nil_of_length_eq_zero (by omega)
  refine ⟨h, call_sh rfl ?_, ?_, hq, n1⟩
  · rw [e]
    simp [k35, ev_loop, e1]
  · rw [g]; simp [fourN]
end Go.Proofs.YtkbamkdgiglljaaGreat
/- A place as five bytes, written by the program. -/
namespace Go.Proofs.YtkbamkdgiglljaaGreat
open Go Go.Em
set_option maxRecDepth 100000
def dA (o : Option (Out × Heap)) : Option (D × Heap) := match o with
  | some (.ret d, h') => some (d, h')
  | _ => none
@[simp] theorem dA_ret (d : D) (h : Heap) : dA (some (.ret d, h)) = some (d, h) := by unfold dA; rfl
theorem dcore_c {c : Cfg} {R : Rc} {base : Nat} (d : Option Nat) (f : FuncId) (args : List X) (wt : Nat) (e : List D) (h : Heap) :
    dcore c R base ⟨⟨none, d, .inr (.fn f args)⟩, none, [], wt, false⟩ e h = dA (call c.pg R f (args.map (rd c.pg.gl e)) h) := by
  unfold dcore dA
  simp only [G.want, Bool.false_eq_true, if_false, List.isEmpty_nil, Bool.true_or, if_true]
  rfl
set_option maxHeartbeats 2000000 in
theorem putP_sh {k o N : Nat} {cap : Option Nat} {ty : TypeId} {A M B : List D} {p q : Nat} {h0 : Heap} (hq : q < 4294967296) (hA : A.length = o) (hN : 5 ≤ N) (hM : M.length = 5) (hg : h0.get k = some (.cells ty (A ++ (M ++ B)))) (hk : k < h0.next) (hf : h0.Fr) {n : Nat} (hn : 30 ≤ n) :
    ∃ h, call pg (rc pg n) 34 [.slr k o N 1 cap, plD p q] h0 = some (.ret (.tup []), h) ∧ h.get k = some (.cells ty (A ++ (u1D (p % 256) :: fourN q ++ B))) ∧ (∀ z, z ≠ k → z < h0.next → h.raw z = h0.raw z) ∧ h0.next ≤ h.next ∧ h.Fr := by
  obtain ⟨m, rfl, e⟩ := fn_body (pg := pg) (n := n) (f := 34) (args := [.slr k o N 1 cap, plD p q]) (h := h0) (show 0 < n by omega) rfl rfl
  obtain ⟨m0, M', rfl⟩ : ∃ m0 M', M = m0 :: M' := by
    cases M with
    | nil => simp at hM
    | cons m M => exact ⟨_, _, rfl⟩
  have hM4 : M'.length = 4 := by simpa using hM
  have hfr : ∀ j, h0.raw (h0.next + j) = none := fun j => hf _ (by omega)
  have ne1 : ∀ j, (k = h0.next + j) = False := fun j => by simp; omega
  have ne2 : ∀ j, (h0.next + j = k) = False := fun j => by simp; omega
  have wp := wrap_u8n p
  have wq := wrap_u32 hq
  have hp := put_at (F := []) (m0 := m0) (d := .val (.int .u8 ((p : Int) % 256))) (M := M') (B := B) (j := 0) hA rfl
  simp only [List.nil_append, Nat.add_zero] at hp
  obtain ⟨C, hC⟩ : ∃ C, C = A ++ (m0 :: M' ++ B) := ⟨_, rfl⟩
  rw [← hC] at hg hp
  have hle : o + 1 ≤ C.length := by rw [hC]; simp [hA]
  have hN0 : 0 < N := by omega
  have hN1 : (1 : Int) ≤ (N : Int) := by omega
  have hN2 : ¬ (1 : Int) = (N : Int) := by omega
  obtain ⟨C2, hC2⟩ : ∃ C2, C2 = A ++ ([.val (.int .u8 ((p : Int) % 256))] ++ (M' ++ B)) := ⟨_, rfl⟩
  rw [← hC2] at hp
  simp only [plD] at e ⊢
  obtain ⟨H, hH⟩ : ∃ H : Heap, H = ((((h0.bump 15).set (h0.next + 3) (some (.cells 23 [D.int p, D.int q]))).bump 15).set k (some (.cells ty C2))).bump 15 := ⟨_, rfl⟩
  have g1 : H.get k = some (.cells ty ((A ++ [.val (.int .u8 ((p : Int) % 256))]) ++ (M' ++ B))) := by rw [hH]; simp [hC2]
  obtain ⟨h, c1, c2, c3, c4⟩ := putN_sh (cap := cap.map (· - 1)) (N := N - 1) (a := q) (h0 := H) (o := o + 1) (by simp [hA]) (show 4 ≤ N - 1 by omega) hM4 g1 (n := m) (by omega)
  refine ⟨h, call_sh rfl ?_, ?_, fun z hz hz2 => ?_, ?_, fun z hz => ?_⟩
  · rw [e]
    simp [k34, Env.v_ini, hg, hfr, ne1, ne2, wp, wq, hle, hp, hN0, hN1, hN2, dcore_c, D.cells, D.one, Value.oneCell', sliceR, upTo, mxOk, mxCap]
    rw [← hH]
    simp only [c1]
    simp
  · rw [c2]; simp
  · rw [c3 z hz, hH]
    have : (z = h0.next + 3) = False := by simp; omega
    simp [hz, this]
  · rw [hH] at c4; simp at c4; omega
  · by_cases hz2 : z = k
    · rw [hH] at c4; simp at c4; omega
    · rw [c3 z hz2, hH]
      rw [hH] at c4; simp at c4
      have : (z = h0.next + 3) = False := by simp; omega
      simp [hz2, this]
      exact hf z (by omega)
end Go.Proofs.YtkbamkdgiglljaaGreat
