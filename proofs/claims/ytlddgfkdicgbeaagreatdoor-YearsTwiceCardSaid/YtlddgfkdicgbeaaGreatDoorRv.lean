/- Few runs; sums of sums. -/
import Derived.Test.YtlddgfkdicgbeaaGreatDoorRt
namespace Go.Proofs.YtlddgfkdicgbeaaGreatDoor
open Go Go.Em
set_option maxRecDepth 100000
theorem mod_run (p n : Int) (h0 : 0 < n) (hn : n ≤ 4611686018427387904) {m : Nat} (hm : 1 ≤ m) : pureCall (rc pg m) 26 [D.int p, D.int n] = some (.ret (D.int (p % n))) := by
  obtain ⟨k, rfl, e⟩ := body (pg := pg) (f := 26) (args := [D.int p, D.int n]) (show 0 < m by omega) rfl rfl
  rw [e]
  have hne : n ≠ 0 := by omega
  have h1 : p.tmod n < n := Int.tmod_lt_of_pos p h0
  have h2 : -n < p.tmod n := by have := Int.lt_tmod_of_pos p h0; omega
  have w1 : IntKind.i64.wrap (p.tmod n + n) = p.tmod n + n := wrap_i64 (by omega) (by omega)
  have e1 : (p.tmod n + n).tmod n = p % n := by
    rw [Int.tmod_eq_emod_of_nonneg (by omega), Int.add_emod_right]
    have : p.tmod n % n = p % n := by
      have h3 : p.tmod n = p - n * p.tdiv n := by have := Int.tmod_add_mul_tdiv p n; omega
      rw [h3, Int.sub_emod, Int.mul_emod_right, Int.sub_zero, Int.emod_emod_of_dvd _ (Int.dvd_refl n)]
    exact this
  simp [k26, Env.v_ini, bin_rem hne, w1, e1]
def cutR (r : Rn) : Rn := (r.1 % 2000001 - 1000000, r.2 % 2000001 - 1000000)
def fewL (l : List Rn) : List Rn := (l.take 60).map cutR
theorem few_snoc {l : List Rn} {i : Nat} (hi : i < l.length) (h6 : i < 60) : ((l.take (i + 1)).map cutR) = (l.take i).map cutR ++ [cutR l[i]] := by rw [take_snoc hi, List.map_append]; rfl
def FwI (l : List Rn) (k : Nat) (s : St) : Prop := ∃ (x : Env 34) (h : Heap) (i : Nat) (d : D), s = ⟨x.l, h, []⟩ ∧ i + k = min l.length 60 ∧ x.v 0 = rnsD l ∧ x.v 3 = d ∧ x.v 4 = D.int i ∧ GR h d ((l.take i).map cutR) ∧ h.Fr
set_option maxHeartbeats 8000000 in
theorem fw_round (l : List Rn) : ∀ n, 3 ≤ n → ∀ k s, FwI l k s → Res (k25l0.ev ⟨pg, 34, none⟩ (rc pg n) s) (Rnd (FwI l) (fun x s => x = .exit 0 ∧ FwI l 0 s) k) := by
  rintro n hn k s ⟨x, h, i, d, rfl, hik, v0, v3, v4, hd, hf⟩
  simp only [rnsD] at v0
  by_cases hi : i < l.length
  · have hi' : (i : Int) < (l.length : Int) := by omega
    by_cases h6 : i < 60
    · have h6' : (i : Int) < 60 := by omega
      obtain ⟨r, hr⟩ : ∃ r, l[i] = r := ⟨_, rfl⟩
      have hsn := few_snoc hi h6
      rw [hr] at hsn
      have w1 : IntKind.i64.wrap ((i : Int) + 1) = (i : Int) + 1 := wrap_i64 (by omega) (by omega)
      have m1 := mod_run r.1 2000001 (by omega) (by omega) (m := n) (by omega)
      have m2 := mod_run r.2 2000001 (by omega) (by omega) (m := n) (by omega)
      have r1 := Int.emod_nonneg r.1 (show (2000001 : Int) ≠ 0 by omega)
      have r2 := Int.emod_lt_of_pos r.1 (show (0 : Int) < 2000001 by omega)
      have r3 := Int.emod_nonneg r.2 (show (2000001 : Int) ≠ 0 by omega)
      have r4 := Int.emod_lt_of_pos r.2 (show (0 : Int) < 2000001 by omega)
      have w2 : IntKind.i64.wrap (r.1 % 2000001 - 1000000) = (cutR r).1 := wrap_i64 (by omega) (by omega)
      have w3 : IntKind.i64.wrap (r.2 % 2000001 - 1000000) = (cutR r).2 := wrap_i64 (by omega) (by omega)
      have s26 : pg.sh 26 = false := rfl
      have hfr : ∀ j, h.raw (h.next + j) = none := fun j => hf _ (by omega)
      have hol : ((l.take i).map cutR).length ≤ 60 := by simp; omega
      obtain ⟨O, hO⟩ : ∃ O, O = (l.take i).map cutR := ⟨_, rfl⟩
      obtain ⟨c, hc⟩ : ∃ c, c = cutR r := ⟨_, rfl⟩
      rw [← hO] at hd hsn hol
      rw [← hc] at hsn w2 w3
      rcases hd with ⟨hO0, rfl⟩ | ⟨kk, rfl, hg, hkk⟩
      · subst hO0
        simp [k25l0, v0, v3, v4, hi, hi', h6', hr, w1, w2, w3, rnD, rnC, D.cells, D.one, hfr, Nat.add_assoc, dcore_f, s26, m1, m2, zerosD, apK_some, room, maxLen, List.range_succ]
        refine ⟨k - 1, by omega, _, _, i + 1, .slr (h.next + 66) 0 1 2 none, rfl, by omega, by simp [v0, rnsD], by simp, by simp, .inr ⟨h.next + 66, by simp [hsn], by simp [hsn, rnC], by simp <;> omega⟩, ?_⟩
        repeat' first | exact hf | apply Heap.Fr.bump | apply Heap.Fr.set
        all_goals (simp <;> omega)
      · have ne1 : ∀ j, (h.next + j = kk) = False := fun j => by simp; omega
        have ne2 : ∀ j, (kk = h.next + j) = False := fun j => by simp; omega
        have happ := fun t hh news => appS_none (t := t) (et := 40) (sz := 2) (bytes := 16) (h := hh) (m := 1) (news := news) (k := kk) (n := O.length) (cs := O.flatMap rnC) (cells_rn O) (by omega) (by unfold room; omega) (by unfold maxLen; omega)
        simp [k25l0, v0, v3, v4, hi, hi', h6', hr, w1, w2, w3, rnD, rnC, D.cells, D.one, hfr, Nat.add_assoc, dcore_f, s26, m1, m2, zerosD, apK_some, List.range_succ, hg, ne1, ne2, happ]
        refine ⟨k - 1, by omega, _, _, i + 1, .slr (h.next + 66) 0 (O.length + 1) 2 none, rfl, by omega, by simp [v0, rnsD], by simp, by simp, .inr ⟨h.next + 66, by simp [hsn], by simp [hsn, rnC], by simp <;> omega⟩, ?_⟩
        repeat' first | exact hf | apply Heap.Fr.bump | apply Heap.Fr.set
        all_goals (simp <;> omega)
    · have h6' : ¬ (i : Int) < 60 := by omega
      simp [k25l0, v0, v4, hi', h6']
      exact ⟨_, _, i, d, rfl, by omega, by simp [v0, rnsD], by simp [v3], by simp [v4], hd.bump _, hf.bump _⟩
  · have hi' : ¬ (i : Int) < (l.length : Int) := by omega
    simp [k25l0, v0, v4, hi]
    exact ⟨_, _, i, d, rfl, by omega, by simp [v0, rnsD], by simp [v3], by simp [v4], hd.bump _, hf.bump _⟩
set_option maxHeartbeats 4000000 in
theorem few_run (l : List Rn) {n : Nat} (hn : 100 ≤ n) : pureCall (rc pg n) 25 [rnsD l] = some (.ret (rnsD (fewL l))) := by
  obtain ⟨m, rfl, e⟩ := body (pg := pg) (f := 25) (args := [rnsD l]) (show 0 < n by omega) rfl rfl
  rw [e]
  simp [k25, rnsD, ev_loop]
  refine Res.endsAfter (lp_rule 3 (FwI l) _ (fw_round l) (min l.length 60) m _ (by omega) ⟨_, _, 0, .val (.slice none 0 0), rfl, by omega, by simp [Env.v_ini, rnsD], by simp, by simp, .inl ⟨by simp, rfl⟩, ?_⟩) ?_
  · repeat' first | exact Heap.Fr.empty | apply Heap.Fr.bump | apply Heap.Fr.set
  rintro x s ⟨rfl, x, h, i, d, rfl, hi, v0, v3, v4, hd, hf⟩
  have hii : i = min l.length 60 := by omega
  have he : (l.take i).map cutR = fewL l := by
    unfold fewL
    rw [hii]
    congr 1
    by_cases h : l.length ≤ 60
    · rw [Nat.min_eq_left h, List.take_length, List.take_of_length_le h]
    · rw [Nat.min_eq_right (by omega)]
  rw [he] at hd
  obtain ⟨ks, hz⟩ := (hd.bump 34).frz4
  simp only [rnsD] at hz ⊢
  simp [v3]
  rw [hz]
  exact ⟨_, rfl⟩
/-! ### Sums of sums -/
def Near (l : List Rn) (M : Int) : Prop := ∀ y, Runs.inC l y → -M ≤ y ∧ y ≤ M
theorem near_runs {l : List Rn} {M : Int} (h : Near l M) {r : Rn} (hr : r ∈ Runs.rnorm l) : -M ≤ r.1 ∧ r.2 ≤ M := by
  obtain ⟨n1, n2⟩ := Runs.rnorm_ok l
  have ho := n1.1 r hr
  have h1 := h r.1 ((n2 _).1 ⟨r, hr, Runs.okR_lo ho⟩)
  have h2 := h r.2 ((n2 _).1 ⟨r, hr, Runs.okR_hi ho⟩)
  exact ⟨h1.1, h2.2⟩
theorem spr_mem {l : List Rn} {M a b : Int} (h : Near l M) (hM : M ≤ 400000000) (ha : -400000000 ≤ a) (hab : a ≤ b) (hb : b ≤ 400000000) (y : Int) : Runs.inL (sprF l a b) y ↔ ∃ n, a ≤ n ∧ n ≤ b ∧ Runs.inC l (y - n) := by
  obtain ⟨n1, n2⟩ := Runs.rnorm_ok l
  have hF : Runs.FAR = 1000000000 := rfl
  unfold sprF
  rw [if_neg (by omega), (Runs.rnorm_ok _).2]
  have key : ∀ r, r ∈ Runs.rnorm l → Runs.clipR (spr a b r) = (r.1 + a, r.2 + b) := fun r hr => by
    obtain ⟨h1, h2⟩ := near_runs h hr
    obtain ⟨_, o2, _⟩ := n1.1 r hr
    have e1 : r.1 ≠ -1000000000 := by omega
    have e2 : r.2 ≠ 1000000000 := by omega
    unfold spr Runs.clipR
    simp only [if_neg e1, if_neg e2]
    exact Prod.ext (Int.max_eq_left (by omega)) (Int.min_eq_left (by omega))
  constructor
  · rintro ⟨s, hs, h3⟩
    obtain ⟨r, hr, rfl⟩ := List.mem_map.1 hs
    rw [key r hr] at h3
    obtain ⟨h4, h5⟩ := h3
    have h4' : r.1 + a ≤ y := h4
    have h5' : y ≤ r.2 + b := h5
    obtain ⟨_, o2, _⟩ := n1.1 r hr
    refine ⟨max a (y - r.2), by omega, by omega, (n2 _).1 ⟨r, hr, ?_, ?_⟩⟩
    · show r.1 ≤ y - max a (y - r.2); omega
    · show y - max a (y - r.2) ≤ r.2; omega
  · rintro ⟨n, h3, h4, h5⟩
    obtain ⟨r, hr, h6, h7⟩ := (n2 _).2 h5
    refine ⟨spr a b r, List.mem_map.2 ⟨r, hr, rfl⟩, ?_⟩
    rw [key r hr]
    exact ⟨by show r.1 + a ≤ y; omega, by show y ≤ r.2 + b; omega⟩
theorem spr_near {l : List Rn} {M a b : Int} (h : Near l M) (hM : M ≤ 400000000) (ha : -400000000 ≤ a) (hab : a ≤ b) (hb : b ≤ 400000000) {N : Int} (hN1 : M + b ≤ N) (hN2 : M - a ≤ N) : Near (sprF l a b) N := by
  intro y hy
  rw [Runs.inC_nf (sprF_nf l a b), spr_mem h hM ha hab hb] at hy
  obtain ⟨n, h1, h2, h3⟩ := hy
  have := h _ h3
  omega
theorem spr_twice {l : List Rn} {M a b c d : Int} (h : Near l M) (hM : M ≤ 100000000) (ha : -100000000 ≤ a) (hab : a ≤ b) (hb : b ≤ 100000000) (hc : -100000000 ≤ c) (hcd : c ≤ d) (hd : d ≤ 100000000) : sprF (sprF l a b) c d = sprF l (a + c) (b + d) := by
  have hN := spr_near h (by omega) (by omega) hab (by omega) (N := 300000000) (by omega) (by omega)
  refine Runs.nf_ext (sprF_nf _ _ _) (sprF_nf _ _ _) fun y => ?_
  rw [spr_mem hN (by omega) (by omega) hcd (by omega), spr_mem h (by omega) (by omega) (by omega) (by omega)]
  constructor
  · rintro ⟨n, h1, h2, h3⟩
    rw [Runs.inC_nf (sprF_nf l a b), spr_mem h (by omega) (by omega) hab (by omega)] at h3
    obtain ⟨m, h4, h5, h6⟩ := h3
    refine ⟨m + n, by omega, by omega, ?_⟩
    rwa [show y - (m + n) = y - n - m by omega]
  · rintro ⟨k, h1, h2, h3⟩
    refine ⟨k - max a (k - d), by omega, by omega, ?_⟩
    rw [Runs.inC_nf (sprF_nf l a b), spr_mem h (by omega) (by omega) hab (by omega)]
    refine ⟨max a (k - d), by omega, by omega, ?_⟩
    rwa [show y - (k - max a (k - d)) - max a (k - d) = y - k by omega]
theorem few_near (l : List Rn) : Near (fewL l) 1000000 := by
  rintro y ⟨r, hr, h1, h2⟩
  obtain ⟨s, _, rfl⟩ := List.mem_map.1 hr
  have r1 := Int.emod_nonneg s.1 (show (2000001 : Int) ≠ 0 by omega)
  have r4 := Int.emod_lt_of_pos s.2 (show (0 : Int) < 2000001 by omega)
  have h1' : max (s.1 % 2000001 - 1000000) (-1000000000) ≤ y := h1
  have h2' : y ≤ min (s.2 % 2000001 - 1000000) 1000000000 := h2
  omega
theorem few_len (l : List Rn) : (fewL l).length ≤ 60 := by unfold fewL; simp; omega
end Go.Proofs.YtlddgfkdicgbeaaGreatDoor
/- The law of sums of sums. -/
namespace Go.Proofs.YtlddgfkdicgbeaaGreatDoor
open Go Go.Em
set_option maxRecDepth 100000
def orB (L : List Rn) (Y a : Int) : Nat → Bool
  | 0 => false
  | k + 1 => orB L Y a k || hasB L (Y - (a + k))
theorem orB_iff (L : List Rn) (Y a : Int) : ∀ k : Nat, orB L Y a k = true ↔ ∃ n, a ≤ n ∧ n < a + k ∧ Runs.inC L (Y - n)
  | 0 => ⟨fun h => absurd h (by simp [orB]), fun ⟨n, h1, h2, _⟩ => by omega⟩
  | k + 1 => by
    rw [orB, Bool.or_eq_true, orB_iff L Y a k, hasB_iff]
    constructor
    · rintro (⟨n, h1, h2, h3⟩ | h)
      · exact ⟨n, h1, by omega, h3⟩
      · exact ⟨a + k, by omega, by omega, h⟩
    · rintro ⟨n, h1, h2, h3⟩
      by_cases h : n = a + k
      · exact .inr (h ▸ h3)
      · exact .inl ⟨n, h1, by omega, h3⟩
def TwI (L : List Rn) (s y a b Y : Int) (sd : D) (k : Nat) (st : St) : Prop := ∃ (x : Env 78) (h : Heap) (j : Nat), st = ⟨x.l, h, []⟩ ∧ (j : Int) + a + k = b + 1 ∧ x.v 0 = rnsD L ∧ x.v 2 = D.int y ∧ x.v 8 = D.int b ∧ x.v 11 = sd ∧ x.v 12 = D.bool (orB L Y a j) ∧ x.v 13 = D.int (a + j)
set_option maxHeartbeats 4000000 in
theorem tw_round (L : List Rn) (hL : L.length ≤ 60) (s y a b Y : Int) (hY : Y = y % 2000001 - 1000000) (ha : -1000000 ≤ a) (hab : a ≤ b) (hb : b ≤ 1000000) (sd : D) : ∀ n, 10000200 ≤ n → ∀ k st, TwI L s y a b Y sd k st → Res (k6l0.ev ⟨pg, 78, none⟩ (rc pg n) st) (Rnd (TwI L s y a b Y sd) (fun x st => x = .exit 0 ∧ TwI L s y a b Y sd 0 st) k) := by
  rintro n hn k st ⟨x, h, j, rfl, hjk, v0, v2, v8, v11, v12, v13⟩
  have r1 := Int.emod_nonneg y (show (2000001 : Int) ≠ 0 by omega)
  have r2 := Int.emod_lt_of_pos y (show (0 : Int) < 2000001 by omega)
  by_cases hi : a + j ≤ b
  · have w1 : IntKind.i64.wrap (a + (j : Int) + 1) = a + ((j + 1 : Nat) : Int) := by rw [wrap_i64 (by omega) (by omega)]; omega
    have w2 : IntKind.i64.wrap (y % 2000001 - 1000000) = Y := by rw [hY]; exact wrap_i64 (by omega) (by omega)
    have w3 : IntKind.i64.wrap (Y - (a + (j : Int))) = Y - (a + j) := wrap_i64 (by omega) (by omega)
    have cm := fun h => call_of (h := h) (pg := pg) (f := 26) rfl rfl (mod_run y 2000001 (by omega) (by omega) (m := n) (by omega))
    have ch := fun h => call_of (h := h) (pg := pg) (f := 21) rfl (by have := rn_can L; simp [rnsD, this]) (has_run L (by omega) (Y - (a + j)) (n := n) (by omega))
    have ho : orB L Y a (j + 1) = (orB L Y a j || hasB L (Y - (a + j))) := rfl
    obtain ⟨o, hoo⟩ : ∃ o, o = orB L Y a j := ⟨_, rfl⟩
    rw [← hoo] at v12 ho
    cases o with
    | true =>
      rw [Bool.true_or] at ho
      simp [-Int.natCast_add, k6l0, v8, v12, v13, hi, w1]
      exact ⟨k - 1, by omega, _, _, j + 1, rfl, by omega, by simp [v0], by simp [v2], by simp [v8], by simp [v11], by simp [ho], by simp⟩
    | false =>
      rw [Bool.false_or] at ho
      simp [-Int.natCast_add, k6l0, v0, v2, v8, v12, v13, hi, w1, w2, w3, cm, ch]
      exact ⟨k - 1, by omega, _, _, j + 1, rfl, by omega, by simp [v0], by simp [v2], by simp [v8], by simp [v11], by simp [ho], by simp⟩
  · simp [k6l0, v8, v13, hi]
    exact ⟨_, _, j, rfl, by omega, by simp [v0], by simp [v2], by simp [v8], by simp [v11], by simp [v12], by simp [v13]⟩
set_option maxHeartbeats 16000000 in
theorem twice_law (l : List Rn) (p0 p1 p2 p3 y : Int) {n : Nat} (hn1 : bigN + 300 ≤ n) (hn : 2020001000 ≤ n) : pureCall (rc pg n) 6 [rnsD l, .agg [D.int p0, D.int p1, D.int p2, D.int p3], D.int y] = some (.ret (D.bool true)) := by
  obtain ⟨m, rfl, e⟩ := body (pg := pg) (f := 6) (args := [rnsD l, .agg [D.int p0, D.int p1, D.int p2, D.int p3], D.int y]) (show 0 < n by omega) rfl rfl
  rw [e]
  have fr := fun h => call_of (h := h) (pg := pg) (f := 25) rfl (rns_can l) (few_run l (n := m) (by omega))
  have hfl := few_len l
  have hfn := few_near l
  obtain ⟨L, hL⟩ : ∃ L, L = fewL l := ⟨_, rfl⟩
  rw [← hL] at fr hfl hfn
  have md := fun (p q : Int) (h0 : 0 < q) (hq : q ≤ 4611686018427387904) h => call_of (h := h) (pg := pg) (f := 26) (args := [D.int p, D.int q]) rfl rfl (mod_run p q h0 hq (m := m) (by omega))
  have m0 := md p0 2001 (by omega) (by omega)
  have m1 := md p1 50 (by omega) (by omega)
  have m2 := md p2 2001 (by omega) (by omega)
  have m3 := md p3 50 (by omega) (by omega)
  have m4 := md y 2000001 (by omega) (by omega)
  have z0 := Int.emod_nonneg p0 (show (2001 : Int) ≠ 0 by omega)
  have z1 := Int.emod_lt_of_pos p0 (show (0 : Int) < 2001 by omega)
  have z2 := Int.emod_nonneg p1 (show (50 : Int) ≠ 0 by omega)
  have z3 := Int.emod_lt_of_pos p1 (show (0 : Int) < 50 by omega)
  have z4 := Int.emod_nonneg p2 (show (2001 : Int) ≠ 0 by omega)
  have z5 := Int.emod_lt_of_pos p2 (show (0 : Int) < 2001 by omega)
  have z6 := Int.emod_nonneg p3 (show (50 : Int) ≠ 0 by omega)
  have z7 := Int.emod_lt_of_pos p3 (show (0 : Int) < 50 by omega)
  have z8 := Int.emod_nonneg y (show (2000001 : Int) ≠ 0 by omega)
  have z9 := Int.emod_lt_of_pos y (show (0 : Int) < 2000001 by omega)
  obtain ⟨a, ha⟩ : ∃ a, a = p0 % 2001 - 1000 := ⟨_, rfl⟩
  obtain ⟨b, hb⟩ : ∃ b, b = a + p1 % 50 := ⟨_, rfl⟩
  obtain ⟨c, hc⟩ : ∃ c, c = p2 % 2001 - 1000 := ⟨_, rfl⟩
  obtain ⟨d, hd⟩ : ∃ d, d = c + p3 % 50 := ⟨_, rfl⟩
  obtain ⟨Y, hY⟩ : ∃ Y, Y = y % 2000001 - 1000000 := ⟨_, rfl⟩
  have w0 : IntKind.i64.wrap (p0 % 2001 - 1000) = a := by rw [ha]; exact wrap_i64 (by omega) (by omega)
  have w1 : IntKind.i64.wrap (a + p1 % 50) = b := by rw [hb]; exact wrap_i64 (by omega) (by omega)
  have w2 : IntKind.i64.wrap (p2 % 2001 - 1000) = c := by rw [hc]; exact wrap_i64 (by omega) (by omega)
  have w3 : IntKind.i64.wrap (c + p3 % 50) = d := by rw [hd]; exact wrap_i64 (by omega) (by omega)
  have w4 : IntKind.i64.wrap (y % 2000001 - 1000000) = Y := by rw [hY]; exact wrap_i64 (by omega) (by omega)
  have w5 : IntKind.i64.wrap (a + c) = a + c := wrap_i64 (by omega) (by omega)
  have w6 : IntKind.i64.wrap (b + d) = b + d := wrap_i64 (by omega) (by omega)
  have tw := spr_twice hfn (by omega) (show -100000000 ≤ a by omega) (show a ≤ b by omega) (show b ≤ 100000000 by omega) (show -100000000 ≤ c by omega) (show c ≤ d by omega) (show d ≤ 100000000 by omega)
  have ls : (sprF L a b).length ≤ 60 := by
    unfold sprF
    split
    · simp
    · have h1 := rnorm_len ((Runs.rnorm L).map (spr a b))
      have h2 := rnorm_len L
      rw [List.length_map] at h1
      omega
  have can3 : ∀ (T : List Rn) (u v : Int), D.canonL [rnsD T, D.int u, D.int v] = true := fun T u v => by have := rn_can T; simp [rnsD, this]
  have s1 := fun h => call_of (h := h) (pg := pg) (f := 23) rfl (can3 L a b) (spread_run L (by omega) a b (n := m) (by omega))
  have s2 := fun h => call_of (h := h) (pg := pg) (f := 23) rfl (can3 (sprF L a b) c d) (spread_run (sprF L a b) (by omega) c d (n := m) (by omega))
  have s3 := fun h => call_of (h := h) (pg := pg) (f := 23) rfl (can3 L (a + c) (b + d)) (spread_run L (by omega) (a + c) (b + d) (n := m) (by omega))
  rw [tw] at s2
  have hle := nf_len' (sprF_nf L (a + c) (b + d))
  have s4 := fun h => call_of (h := h) (pg := pg) (f := 9) rfl (rns_can2 (sprF L (a + c) (b + d)) (sprF L (a + c) (b + d))) (same_run (sprF L (a + c) (b + d)) (sprF L (a + c) (b + d)) (by omega) (n := m) (by omega))
  rw [decide_eq_true rfl] at s4
  have s5 := fun h => call_of (h := h) (pg := pg) (f := 21) rfl (by have := rn_can (sprF L a b); simp [rnsD, this]) (has_run (sprF L a b) (by omega) Y (n := m) (by omega))
  have hs := fun h => sane_call (n := m) (by omega) h
  obtain ⟨K, hK⟩ : ∃ K : Nat, (K : Int) = b + 1 - a := ⟨(b + 1 - a).toNat, by omega⟩
  have hfin : orB L Y a K = hasB (sprF L a b) Y := by
    rw [Bool.eq_iff_iff, orB_iff, hasB_nf (sprF_nf L a b), spr_mem hfn (by omega) (by omega) (by omega) (by omega)]
    constructor
    · rintro ⟨n, h1, h2, h3⟩; exact ⟨n, h1, by omega, h3⟩
    · rintro ⟨n, h1, h2, h3⟩; exact ⟨n, h1, by omega, h3⟩
  simp only [rnsD] at fr s1 s2 s3 s4 s5
  simp [k6, Env.v_ini, rnsD, D.cells, D.one, ev_loop, fr, m0, m1, m2, m3, w0, w1, w2, w3, w5, w6, s1, s2, s3, s4]
  refine Res.endsAfter (lp_rule 10000200 (TwI L 0 y a b Y (rnsD (sprF L a b))) _ (tw_round L hfl 0 y a b Y hY (by omega) (by omega) (by omega) _) K m _ (by omega) ⟨_, _, 0, rfl, by omega, by simp [rnsD], by simp [Env.v_ini], by simp, by simp [rnsD], by simp [orB], by simp⟩) ?_
  rintro x st ⟨rfl, x, h, j, rfl, hj, v0, v2, v8, v11, v12, v13⟩
  obtain rfl : j = K := by omega
  rw [hfin] at v12
  simp only [rnsD] at v11
  simp [v2, v11, v12, m4, w4, s5, hs]
end Go.Proofs.YtlddgfkdicgbeaaGreatDoor
