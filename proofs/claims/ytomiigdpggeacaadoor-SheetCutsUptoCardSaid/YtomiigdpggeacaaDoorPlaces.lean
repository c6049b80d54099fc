/- The numbers of marks, and their places: what the program's Mark and Place answer, and that the law on them holds. -/
import Derived.Test.YtomiigdpggeacaaDoorSane
import Derived.Test.YtomiigdpggeacaaDoorEmZ
namespace Go.Proofs.YtomiigdpggeacaaDoor
open Go Go.Em
set_option maxRecDepth 100000
theorem within_run {n : Nat} (hn : 1 ≤ n) (a lo hi : Int) (h : Heap) : call pg (rc pg n) 69 [D.int a, D.int lo, D.int hi] h = some (.ret (D.bool (decide (lo ≤ a) && decide (a ≤ hi))), h) := by
  refine call_of rfl rfl ?_
  obtain ⟨m, rfl, e⟩ := body (pg := pg) (f := 69) (args := [D.int a, D.int lo, D.int hi]) hn rfl rfl
  rw [e]
  by_cases h1 : lo ≤ a <;> simp [k69, Env.v_ini, h1]

/-- The number of a mark. -/
def markF (c n : Int) : Int := if (0 ≤ c ∧ c ≤ 31) ∧ (0 ≤ n ∧ n ≤ 63) then 64 * c + n + 1 else -1
theorem mark_run {n : Nat} (hn : 2 ≤ n) (a b : Int) (h : Heap) : call pg (rc pg n) 37 [D.int a, D.int b] h = some (.ret (D.int (markF a b)), h) := by
  refine call_of rfl rfl ?_
  obtain ⟨m, rfl, e⟩ := body (pg := pg) (f := 37) (args := [D.int a, D.int b]) (show 0 < n by omega) rfl rfl
  rw [e]
  have hw := @within_run m (by omega)
  by_cases h1 : 0 ≤ a <;> by_cases h2 : a ≤ 31 <;> by_cases h3 : 0 ≤ b <;> by_cases h4 : b ≤ 63 <;> simp [k37, Env.v_ini, hw, h1, h2, h3, h4, markF]
  rw [wrap_i64 (n := 64 * a) (by omega) (by omega), wrap_i64 (n := 64 * a + b) (by omega) (by omega), wrap_i64 (by omega) (by omega)]

/-- A mark's core and number. -/
def placeF (m : Int) : Int × Int := if 1 ≤ m ∧ m ≤ 2048 then ((m - 1) / 64, (m - 1) % 64) else (-1, -1)
theorem place_run {n : Nat} (hn : 2 ≤ n) (a : Int) (h : Heap) : call pg (rc pg n) 80 [D.int a] h = some (.ret (.tup [D.int (placeF a).1, D.int (placeF a).2]), h) := by
  refine call_of rfl rfl ?_
  obtain ⟨m, rfl, e⟩ := body (pg := pg) (f := 80) (args := [D.int a]) (show 0 < n by omega) rfl rfl
  rw [e]
  have hw := @within_run m (by omega)
  by_cases h1 : 1 ≤ a <;> by_cases h2 : a ≤ 2048 <;> simp [k80, Env.v_ini, hw, h1, h2, placeF, bin_quo, bin_rem]
  rw [wrap_i64 (n := a - 1) (by omega) (by omega), Int.tdiv_eq_ediv_of_nonneg (by omega), Int.tmod_eq_emod_of_nonneg (by omega), wrap_i64 (by omega) (by omega)]
  exact ⟨rfl, rfl⟩

theorem place_mark (c n : Int) : markF c n = -1 ∨ (0 ≤ markF c n ∧ placeF (markF c n) = (c, n)) := by
  unfold markF placeF
  split
  · refine .inr ⟨by omega, ?_⟩
    rw [if_pos (by omega)]
    refine Prod.ext ?_ ?_ <;> simp only <;> omega
  · exact .inl rfl
theorem mark_place (m : Int) : ((m < 1 ∨ 2048 < m) ∧ placeF m = (-1, -1)) ∨ (0 ≤ (placeF m).1 ∧ markF (placeF m).1 (placeF m).2 = m) := by
  unfold markF placeF
  split
  · refine .inr ⟨by simp only; omega, ?_⟩
    simp only
    rw [if_pos (by omega)]
    omega
  · exact .inl ⟨by omega, rfl⟩
end Go.Proofs.YtomiigdpggeacaaDoor
/- What a row is. -/
namespace Go.Proofs.YtomiigdpggeacaaDoor
open Go Go.Em
set_option maxRecDepth 100000
structure Rw where
  k : Int
  n : Int
  m : Int
def rowD (r : Rw) : D := .agg [D.int r.k, D.int r.n, D.int r.m]
structure Nt where
  valid : Bool := false
  lo : Int := 0
  hi : Int := 0
  layers : List Int := []
  bed : Int := 0
  hides : Bool := false
  choice : Bool := false
def natC (t : Nt) : List D := [D.bool t.valid, D.int t.lo, D.int t.hi, .sl false (t.layers.map D.int), D.int t.bed, D.bool t.hides, D.bool t.choice]
def natD (t : Nt) : D := .agg (natC t)
def inB (a lo hi : Int) : Bool := decide (lo ≤ a) && decide (a ≤ hi)
def thickB (a : Int) : Bool := inB a 1 100000
theorem thick_run {n : Nat} (hn : 2 ≤ n) (a : Int) : pureCall (rc pg n) 109 [D.int a] = some (.ret (D.bool (thickB a))) := by
  obtain ⟨m, rfl, e⟩ := body (pg := pg) (f := 109) (args := [D.int a]) (show 0 < n by omega) rfl rfl
  rw [e]
  have hw := @within_run m (by omega)
  simp [k109, Env.v_ini, hw, thickB, inB]
/-- What a row of a kind is. -/
def natF (r : Rw) : Nt :=
  if r.k = 1 then { valid := inB r.n 0 63 && r.m == 0 }
  else if r.k = 2 then { valid := thickB r.n && r.m == 0, lo := 1, hi := 1, layers := [r.n] }
  else if r.k = 3 then { valid := thickB r.n && thickB r.m, lo := 1, hi := 2, layers := [r.n, r.m], choice := true }
  else if r.k = 4 then { valid := inB r.n 1 1000 && r.m == 0, hi := r.n, hides := true, choice := true }
  else if r.k = 5 then { valid := thickB r.n && r.m == 0, bed := r.n }
  else if r.k = 6 then { valid := inB r.n 0 r.m && inB r.m 1 1000, lo := r.n, hi := r.m, hides := true, choice := true }
  else {}
theorem in_run {n : Nat} (hn : 1 ≤ n) (a lo hi : Int) : pureCall (rc pg n) 69 [D.int a, D.int lo, D.int hi] = some (.ret (D.bool (inB a lo hi))) := by
  obtain ⟨m, rfl, e⟩ := body (pg := pg) (f := 69) (args := [D.int a, D.int lo, D.int hi]) hn rfl rfl
  rw [e]
  by_cases h1 : lo ≤ a <;> simp [k69, Env.v_ini, h1, inB]
theorem mark_nat {n : Nat} (hn : 3 ≤ n) (r : Rw) : pureCall (rc pg n) 107 [rowD r] = some (.ret (natD { valid := inB r.n 0 63 && r.m == 0 })) := by
  obtain ⟨m, rfl, e⟩ := body (pg := pg) (f := 107) (args := [rowD r]) (show 0 < n by omega) rfl rfl
  rw [e]
  have hw := fun a lo hi h => call_of (h := h) (pg := pg) (f := 69) rfl rfl (@in_run m (by omega) a lo hi)
  have hv := @in_run m (by omega)
  have h1 : pg.sh 69 = false := rfl
  by_cases h : inB r.n 0 63 = true <;> simp [k107, Env.v_ini, hw, h, rowD, D.cells, D.one, natD, natC]
theorem year_nat {n : Nat} (hn : 3 ≤ n) (r : Rw) : pureCall (rc pg n) 108 [rowD r] = some (.ret (natD { valid := thickB r.n && r.m == 0, lo := 1, hi := 1, layers := [r.n] })) := by
  obtain ⟨m, rfl, e⟩ := body (pg := pg) (f := 108) (args := [rowD r]) (show 0 < n by omega) rfl rfl
  rw [e]
  have hv := @thick_run m (by omega)
  have h1 : pg.sh 109 = false := rfl
  by_cases h : thickB r.n = true <;> simp [k108, Env.v_ini, hv, h, rowD, D.cells, D.one, dcore_f, h1, zerosD, natD, natC, chunk]
theorem pair_nat {n : Nat} (hn : 3 ≤ n) (r : Rw) : pureCall (rc pg n) 110 [rowD r] = some (.ret (natD { valid := thickB r.n && thickB r.m, lo := 1, hi := 2, layers := [r.n, r.m], choice := true })) := by
  obtain ⟨m, rfl, e⟩ := body (pg := pg) (f := 110) (args := [rowD r]) (show 0 < n by omega) rfl rfl
  rw [e]
  have hv := @thick_run m (by omega)
  have h1 : pg.sh 109 = false := rfl
  by_cases h : thickB r.n = true <;> simp [k110, Env.v_ini, hv, h, rowD, D.cells, D.one, dcore_f, h1, zerosD, List.range_succ, natD, natC, chunk]
theorem slump_nat {n : Nat} (hn : 3 ≤ n) (r : Rw) : pureCall (rc pg n) 111 [rowD r] = some (.ret (natD { valid := inB r.n 1 1000 && r.m == 0, hi := r.n, hides := true, choice := true })) := by
  obtain ⟨m, rfl, e⟩ := body (pg := pg) (f := 111) (args := [rowD r]) (show 0 < n by omega) rfl rfl
  rw [e]
  have hv := @in_run m (by omega)
  have h1 : pg.sh 69 = false := rfl
  by_cases h : inB r.n 1 1000 = true <;> simp [k111, Env.v_ini, hv, h, rowD, D.cells, D.one, dcore_f, h1, natD, natC]
theorem bed_nat {n : Nat} (hn : 3 ≤ n) (r : Rw) : pureCall (rc pg n) 112 [rowD r] = some (.ret (natD { valid := thickB r.n && r.m == 0, bed := r.n })) := by
  obtain ⟨m, rfl, e⟩ := body (pg := pg) (f := 112) (args := [rowD r]) (show 0 < n by omega) rfl rfl
  rw [e]
  have hv := @thick_run m (by omega)
  have h1 : pg.sh 109 = false := rfl
  by_cases h : thickB r.n = true <;> simp [k112, Env.v_ini, hv, h, rowD, D.cells, D.one, dcore_f, h1, natD, natC]
theorem gap_nat {n : Nat} (hn : 3 ≤ n) (r : Rw) : pureCall (rc pg n) 113 [rowD r] = some (.ret (natD { valid := inB r.n 0 r.m && inB r.m 1 1000, lo := r.n, hi := r.m, hides := true, choice := true })) := by
  obtain ⟨m, rfl, e⟩ := body (pg := pg) (f := 113) (args := [rowD r]) (show 0 < n by omega) rfl rfl
  rw [e]
  have hv := @in_run m (by omega)
  have hw := fun a lo hi h => call_of (h := h) (pg := pg) (f := 69) rfl rfl (@in_run m (by omega) a lo hi)
  have h1 : pg.sh 69 = false := rfl
  by_cases h : inB r.n 0 r.m = true <;> simp [k113, Env.v_ini, hw, h, rowD, D.cells, D.one, natD, natC]
/-- The map of kinds. -/
def kindsD : D := .map [(D.int 1, .fn (.func 107) [] []), (D.int 2, .fn (.func 108) [] []), (D.int 3, .fn (.func 110) [] []), (D.int 4, .fn (.func 111) [] []), (D.int 5, .fn (.func 112) [] []), (D.int 6, .fn (.func 113) [] [])]
theorem kinds_more (m : Nat) : pureCall (rc pg (m + 2)) 89 [] = some (.ret kindsD) := by kernel_rfl
theorem kinds_run {n : Nat} (hn : 2 ≤ n) : pureCall (rc pg n) 89 [] = some (.ret kindsD) := by
  obtain ⟨m, hm⟩ := more_of hn
  rw [hm]
  exact kinds_more m
theorem row_canon (r : Rw) : D.canonL [rowD r] = true := rfl
theorem of_run {n : Nat} (hn : 5 ≤ n) (r : Rw) : pureCall (rc pg n) 90 [kindsD, rowD r] = some (.ret (natD (natF r))) := by
  obtain ⟨m, rfl, e⟩ := body (pg := pg) (f := 90) (args := [kindsD, rowD r]) (show 0 < n by omega) rfl rfl
  rw [e]
  have j1 := fun h => call_of (h := h) (pg := pg) (f := 107) rfl (row_canon r) (@mark_nat m (by omega) r)
  have j2 := fun h => call_of (h := h) (pg := pg) (f := 108) rfl (row_canon r) (@year_nat m (by omega) r)
  have j3 := fun h => call_of (h := h) (pg := pg) (f := 110) rfl (row_canon r) (@pair_nat m (by omega) r)
  have j4 := fun h => call_of (h := h) (pg := pg) (f := 111) rfl (row_canon r) (@slump_nat m (by omega) r)
  have j5 := fun h => call_of (h := h) (pg := pg) (f := 112) rfl (row_canon r) (@bed_nat m (by omega) r)
  have j6 := fun h => call_of (h := h) (pg := pg) (f := 113) rfl (row_canon r) (@gap_nat m (by omega) r)
  simp only [rowD, natD, natC] at j1 j2 j3 j4 j5 j6
  obtain ⟨k, a, b⟩ := r
  by_cases h1 : k = 1
  · subst h1; simp [k90, Env.v_ini, rowD, D.cells, D.one, kindsD, natD, natC, natF, j1]
  by_cases h2 : k = 2
  · subst h2; simp [k90, Env.v_ini, rowD, D.cells, D.one, kindsD, natD, natC, natF, j2]
  by_cases h3 : k = 3
  · subst h3; simp [k90, Env.v_ini, rowD, D.cells, D.one, kindsD, natD, natC, natF, j3]
  by_cases h4 : k = 4
  · subst h4; simp [k90, Env.v_ini, rowD, D.cells, D.one, kindsD, natD, natC, natF, j4]
  by_cases h5 : k = 5
  · subst h5; simp [k90, Env.v_ini, rowD, D.cells, D.one, kindsD, natD, natC, natF, j5]
  by_cases h6 : k = 6
  · subst h6; simp [k90, Env.v_ini, rowD, D.cells, D.one, kindsD, natD, natC, natF, j6]
  have b1 : (k == 1) = false := by simpa using h1
  have b2 : (k == 2) = false := by simpa using h2
  have b3 : (k == 3) = false := by simpa using h3
  have b4 : (k == 4) = false := by simpa using h4
  have b5 : (k == 5) = false := by simpa using h5
  have b6 : (k == 6) = false := by simpa using h6
  simp [k90, Env.v_ini, rowD, D.cells, D.one, kindsD, natD, natC, natF, h1, h2, h3, h4, h5, h6, b1, b2, b3, b4, b5, b6, D.of]
end Go.Proofs.YtomiigdpggeacaaDoor
/- What the rows are, or their error. -/
namespace Go.Proofs.YtomiigdpggeacaaDoor
open Go Go.Em
set_option maxRecDepth 100000
def hiSum (l : List Rw) : Int := (l.map fun r => (natF r).hi).sum
def rowsD (l : List Rw) : D := .sl false (l.map rowD)
def okAll (l : List Rw) : Bool := l.all fun r => (natF r).valid
/-- The natures of rows, and an error. -/
def natsF (l : List Rw) : List Nt × Int :=
  if 400 < l.length then ([], 2) else if okAll l = false then ([], 10) else if 100000 < hiSum l then ([], 2) else (l.map natF, 0)
theorem natC_len (r : Rw) : (natC (natF r)).length = 7 := rfl
theorem natC_canon (r : Rw) : D.canonL (natC (natF r)) = true := by
  simp only [natC, D.canonL, D.canon, Bool.and_true, Bool.not_false, Bool.true_and]
  exact canonL_map _ (fun _ => rfl) _
theorem hi_bound (r : Rw) (hv : (natF r).valid = true) : 0 ≤ (natF r).hi ∧ (natF r).hi ≤ 1000 := by
  unfold natF at hv ⊢
  split
  · simp
  split
  · simp
  split
  · simp
  split
  · simp_all [inB]; omega
  split
  · simp
  split
  · simp_all [inB]; omega
  · simp
theorem hiSum_bound : ∀ (l : List Rw), okAll l = true → 0 ≤ hiSum l ∧ hiSum l ≤ 1000 * l.length
  | [], _ => by simp [hiSum]
  | r :: l, h => by
    simp only [okAll, List.all_cons, Bool.and_eq_true] at h
    have h1 := hi_bound r h.1
    have h2 := hiSum_bound l h.2
    have e : hiSum (r :: l) = (natF r).hi + hiSum l := by simp [hiSum]
    rw [e, List.length_cons]
    omega
theorem hiSum_snoc (l : List Rw) (r : Rw) : hiSum (l ++ [r]) = hiSum l + (natF r).hi := by simp [hiSum]
theorem okAll_snoc (l : List Rw) (r : Rw) : okAll (l ++ [r]) = (okAll l && (natF r).valid) := by simp [okAll]

/-- The loop's state: so many rows are done. -/
def NI (l : List Rw) (kL : Nat) (k : Nat) (s : St) : Prop := ∃ (x : Env 41) (h : Heap) (i : Nat) (cs : List D), s = ⟨x.l, h, []⟩ ∧ i + k = l.length ∧ x.v 17 = .sl false (l.map rowD) ∧ x.v 18 = D.int l.length ∧ x.v 19 = D.int i ∧ x.v 4 = kindsD ∧
  x.v 5 = .slr kL 0 i 7 (some l.length) ∧ x.v 6 = D.int (hiSum (l.take i)) ∧ h.get kL = some (.cells 104 cs) ∧ cs = (l.take i).flatMap (fun r => natC (natF r)) ∧ kL < h.next ∧ h.Fr ∧ okAll (l.take i) = true
/-- Its end. -/
def NQ (l : List Rw) (kL : Nat) (x : Ex) (s : St) : Prop :=
  (x = .exit 0 ∧ NI l kL 0 s) ∨ (x = .ret ∧ okAll l = false ∧ ∃ (x : Env 41) (h : Heap), s = ⟨x.l, h, []⟩ ∧ x.v 2 = .val (.slice none 0 0) ∧ x.v 3 = D.int 10)

set_option maxHeartbeats 1000000 in
theorem nats_round (l : List Rw) (hl : l.length ≤ 400) (kL : Nat) : ∀ n, 6 ≤ n → ∀ k s, NI l kL k s → Res (k62l0.ev ⟨pg, 41, none⟩ (rc pg n) s) (Rnd (NI l kL) (NQ l kL) k) := by
  rintro n hn k s ⟨x, h, i, cs, rfl, hik, v17, v18, v19, v4, v5, v6, hg, hcs, hk, hf, hv⟩
  have hof := @of_run n (by omega)
  have hfr : ∀ j, h.raw (h.next + j) = none := fun j => hf _ (by omega)
  have ne1 : ∀ j, (kL = h.next + j) = False := fun j => by simp; omega
  have ne2 : ∀ j, (h.next + j = kL) = False := fun j => by simp; omega
  by_cases hlt : i < l.length
  · obtain ⟨r, hr⟩ : ∃ r, l[i] = r := ⟨l[i], rfl⟩
    have hr' := hof r
    have hcall := fun hh => call_of (h := hh) (pg := pg) (f := 90) rfl rfl hr'
    simp only [rowD, natD, natC, kindsD] at hcall
    simp only [kindsD] at v4
    have hlen : cs.length = i * 7 := by rw [hcs, length_flatMap _ natC_len, List.length_take, Nat.min_eq_left (by omega)]
    have hroom : (i + 1) * 64 ≤ room := by unfold room; omega
    have hmax : i + 1 ≤ maxLen := by unfold maxLen; omega
    have happ := fun t hh news => appS_cap (t := t) (et := 104) (sz := 7) (bytes := 64) (h := hh) (m := 1) (news := news) (k := kL) (n := i) (c := l.length) (ty := 104) hlen (by omega) hroom hmax
    have hb := hiSum_bound _ hv
    have htake : l.take (i + 1) = l.take i ++ [r] := by rw [List.take_add_one, List.getElem?_eq_getElem hlt, hr]; rfl
    by_cases hval : (natF r).valid = true
    · simp [k62l0, v17, v18, v19, v4, v5, v6, hlt, hr, rowD, D.cells, D.one, hfr, ne1, hg, hcall, hval, Nat.add_assoc, zerosD, List.range_succ, apK_some, happ]
      have hbr := hi_bound r hval
      rw [List.length_take] at hb
      have hw1 : IntKind.i64.wrap ((i : Int) + 1) = (i : Int) + 1 := wrap_i64 (by omega) (by omega)
      have hw2 : IntKind.i64.wrap (hiSum (l.take i) + (natF r).hi) = hiSum (l.take (i + 1)) := by rw [htake, hiSum_snoc]; exact wrap_i64 (by omega) (by omega)
      refine ⟨k - 1, by omega, _, _, i + 1, cs ++ natC (natF r), rfl, by omega, by simp [v17], by simp [v18], by simp [hw1], by simp [v4, kindsD], by simp, by simp [hw2], by simp [natC, hval], ?_, by simp; omega, ?_, ?_⟩
      · rw [htake, hcs, List.flatMap_append]; simp
      · repeat' first | exact hf | apply Heap.Fr.bump | apply Heap.Fr.set
        all_goals (simp <;> omega)
      · rw [htake, okAll_snoc, hv, hval]; rfl
    · simp [k62l0, v17, v18, v19, v4, hlt, hr, rowD, D.cells, D.one, hfr, hcall, hval, Nat.add_assoc]
      refine .inr ⟨rfl, ?_, _, _, rfl, by simp, by simp⟩
      unfold okAll
      rw [List.all_eq_false]
      exact ⟨r, by rw [← hr]; exact List.getElem_mem hlt, hval⟩
  · simp [k62l0, v18, v19, hlt]
    have hi : i = l.length := by omega
    exact .inl ⟨rfl, x.upd 20 (D.val (Value.bool false)), h.bump 41, i, cs, rfl, by omega, by simp [v17], by simp [v18], by simp [v19], by simp [v4], by simp [v5], by simp [v6], by simp [hg], hcs, by simp; omega, hf.bump _, hv⟩
theorem rows_each (h : Heap) (n : Nat) (l : List Rw) : each (frz h (n + 1)) (l.map rowD) = some (l.map rowD, []) := each_canon h n _ (canonL_map _ (fun _ => rfl) l)
theorem natures_run (l : List Rw) {n : Nat} (hn : l.length + 10 ≤ n) : pureCall (rc pg n) 62 [rowsD l] = some (.ret (.tup [.sl false ((natsF l).1.map natD), D.int (natsF l).2])) := by
  obtain ⟨m, rfl, e⟩ := body (pg := pg) (f := 62) (args := [rowsD l]) (show 0 < n by omega) rfl rfl
  rw [e]
  have hk := fun h => call_of (h := h) (pg := pg) (f := 89) rfl rfl (@kinds_run m (by omega))
  by_cases hlen : 400 < l.length
  · have hlen' : (400 : Int) < l.length := by omega
    simp [k62, Env.v_ini, rowsD, hlen', natsF, hlen]
  · have hlen' : ¬ (400 : Int) < l.length := by omega
    have hroom : 64 * (l.length : Int) ≤ room := by unfold room; omega
    simp [k62, Env.v_ini, rowsD, hlen', natsF, hlen, hk, zerosD, hroom, ev_loop]
    refine Res.endsAfter (P := NQ l 139) (lp_rule 6 (NI l 139) (NQ l 139) (nats_round l (by omega) 139) l.length m _ (by omega)
      ⟨_, _, 0, [], rfl, by omega, by simp, by simp, by simp, by simp, by simp, by simp [hiSum], by simp, by simp, by simp, ?_, rfl⟩) ?_
    · repeat' first | exact Heap.Fr.empty | apply Heap.Fr.bump | apply Heap.Fr.set
      all_goals simp
    rintro x s (⟨rfl, x, h, i, cs, rfl, hi, _, _, _, _, v5, v6, hg, hcs, _, _, hv⟩ | ⟨rfl, hbad, x, h, rfl, v2, v3⟩)
    · obtain rfl : i = l.length := by omega
      rw [List.take_length] at v6 hcs hv
      have hl7 : cs.length = l.length * 7 := by rw [hcs, length_flatMap _ natC_len]
      have hcan : D.canonL cs = true := by rw [hcs]; exact canonL_flatMap _ natC_canon l
      have hch : chunk 7 l.length cs = l.map fun r => natD (natF r) := by rw [hcs]; exact chunk_flatMap _ (by decide) natC_len l _ rfl
      have he := each_canon h 21 cs hcan
      have htk : cs.take (l.length * 7) = cs := List.take_of_length_le (by omega)
      by_cases hs : 100000 < hiSum l
      · simp [v6, hs, hv]
      · simp [v6, v5, hs, hv, hg, htk, hch, hl7, each_canon, hcan]
    · simp [v2, v3, hbad]
end Go.Proofs.YtomiigdpggeacaaDoor
