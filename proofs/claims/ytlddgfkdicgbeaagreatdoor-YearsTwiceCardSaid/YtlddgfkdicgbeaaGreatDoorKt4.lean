/- The library's sort: some pivot is chosen. -/
import Derived.Test.YtlddgfkdicgbeaaGreatDoorKt1
namespace Go.Proofs.YtlddgfkdicgbeaaGreatDoor
open Go Go.Em
set_option maxRecDepth 100000
abbrev cB (c : Nat) : Blk := .cells 3 [D.int c]
set_option maxHeartbeats 8000000 in
theorem o2_sh {kb sb c : Nat} {d : Array EE} {h0 h : Heap} (W : SW kb d sb (cB c) h0 h) {N : Nat} (hd : d.size = N) (_hN : N ≤ 10000000) (hc : c ≤ 1000) (cap : Option Nat) {lo hi a b : Nat} (ha1 : lo ≤ a) (ha2 : a < hi) (hb1 : lo ≤ b) (hb2 : b < hi) (hh : hi ≤ N) {n : Nat} (hn : 5 ≤ n) :
    ∃ h' a' b' c', (rc pg n).fn 149 [.slr kb 0 N 3 cap, D.int a, D.int b, .ptr sb 0, cF] h = some (.ret (.tup [D.int ((a' : Nat) : Int), D.int ((b' : Nat) : Int)]), h') ∧ SW kb d sb (cB c') h0 h' ∧ c' ≤ c + 1 ∧ lo ≤ a' ∧ a' < hi ∧ lo ≤ b' ∧ b' < hi := by
  obtain ⟨m, rfl, e⟩ := fn_body (pg := pg) (f := 149) (args := [.slr kb 0 N 3 cap, D.int a, D.int b, .ptr sb 0, cF]) (h := h) (show 0 < n by omega) rfl rfl
  rw [e]
  have g := W.sd.g
  have gs := W.s
  have haN : a < d.size := by omega
  have hbN : b < d.size := by omega
  have l1 : a < N := by omega
  have l2 : b < N := by omega
  have l3 : a + 1 ≤ N := by omega
  have l4 : b + 1 ≤ N := by omega
  have w1 : IntKind.i64.wrap ((c : Int) + 1) = ((c + 1 : Nat) : Int) := wn (by omega) (by omega)
  obtain ⟨c1, hc1⟩ : ∃ c1, c1 = c + 1 := ⟨_, rfl⟩
  rw [← hc1] at w1
  obtain ⟨C, hC⟩ : ∃ C, C = eCs d := ⟨_, rfl⟩
  obtain ⟨va, f1, e1, y1⟩ := get_fact haN hC
  obtain ⟨vb, f2, e2, y2⟩ := get_fact hbN hC
  rw [← hC] at g
  cases hlt : lt vb va with
  | true =>
    obtain ⟨zr, r, rr⟩ := lss_c (n := m) (by omega) hlt
    simp [k149, Env.v_ini, w1, D.cells, D.one, g, gs, e1, f1, e2, f2, l1, l2, dcore_v, r, rr]
    refine ⟨_, b, a, ⟨⟨rfl, rfl⟩, rfl⟩, c1, ?_, by omega, hb1, hb2, ha1, ha2⟩
    repeat' first | exact W | refine SW.bump ?_ _ | refine SW.setS (S := cB c) ?_ _
  | false =>
    obtain ⟨zr, r, rr⟩ := lss_c (n := m) (by omega) hlt
    simp [k149, Env.v_ini, g, e1, f1, e2, f2, l1, l2, dcore_v, r, rr]
    refine ⟨_, a, b, ⟨⟨rfl, rfl⟩, rfl⟩, c, ?_, by omega, ha1, ha2, hb1, hb2⟩
    repeat' first | exact W | refine SW.bump ?_ _
end Go.Proofs.YtlddgfkdicgbeaaGreatDoor
/- The library's sort: medians; some pivot is chosen. -/
namespace Go.Proofs.YtlddgfkdicgbeaaGreatDoor
open Go Go.Em
set_option maxRecDepth 100000
set_option maxHeartbeats 8000000 in
theorem med_sh {kb sb c : Nat} {d : Array EE} {h0 h : Heap} (W : SW kb d sb (cB c) h0 h) {N : Nat} (hd : d.size = N) (hN : N ≤ 10000000) (hc : c ≤ 900) (cap : Option Nat) {lo hi a b e : Nat} (ha1 : lo ≤ a) (ha2 : a < hi) (hb1 : lo ≤ b) (hb2 : b < hi) (he1 : lo ≤ e) (he2 : e < hi) (hh : hi ≤ N) {n : Nat} (hn : 10 ≤ n) :
    ∃ h' a' c', (rc pg n).fn 142 [.slr kb 0 N 3 cap, D.int a, D.int b, D.int e, .ptr sb 0, cF] h = some (.ret (D.int ((a' : Nat) : Int)), h') ∧ SW kb d sb (cB c') h0 h' ∧ c' ≤ c + 3 ∧ lo ≤ a' ∧ a' < hi := by
  obtain ⟨m, rfl, ee⟩ := fn_body (pg := pg) (f := 142) (args := [.slr kb 0 N 3 cap, D.int a, D.int b, D.int e, .ptr sb 0, cF]) (h := h) (show 0 < n by omega) rfl rfl
  rw [ee]
  obtain ⟨H1, hH1⟩ : ∃ H, H = (h.bump 41).bump 41 := ⟨_, rfl⟩
  have W1 : SW kb d sb (cB c) h0 H1 := hH1 ▸ (W.bump 41).bump 41
  obtain ⟨h1, a1, b1, c1, r1, V1, hc1, p1, p2, p3, p4⟩ := o2_sh W1 hd hN (by omega) cap ha1 ha2 hb1 hb2 hh (n := m) (by omega)
  have s1 := call_sh (pg := pg) (f := 149) rfl r1
  obtain ⟨H2, hH2⟩ : ∃ H, H = h1.bump 41 := ⟨_, rfl⟩
  have W2 : SW kb d sb (cB c1) h0 H2 := hH2 ▸ V1.bump 41
  obtain ⟨h2, a2, b2, c2, r2, V2, hc2, q1, q2, q3, q4⟩ := o2_sh W2 hd hN (by omega) cap p3 p4 he1 he2 hh (n := m) (by omega)
  have s2 := call_sh (pg := pg) (f := 149) rfl r2
  obtain ⟨H3, hH3⟩ : ∃ H, H = h2.bump 41 := ⟨_, rfl⟩
  have W3 : SW kb d sb (cB c2) h0 H3 := hH3 ▸ V2.bump 41
  obtain ⟨h3, a3, b3, c3, r3, V3, hc3, t1, t2, t3, t4⟩ := o2_sh W3 hd hN (by omega) cap p1 p2 q1 q2 hh (n := m) (by omega)
  have s3 := call_sh (pg := pg) (f := 149) rfl r3
  simp [k142, Env.v_ini, ← hH1, s1, ← hH2, s2, ← hH3, s3]
  refine ⟨_, b3, ⟨rfl, rfl⟩, c3, ?_, by omega, t3, t4⟩
  repeat' first | exact V3 | refine SW.bump ?_ _
set_option maxHeartbeats 8000000 in
theorem meda_sh {kb sb c : Nat} {d : Array EE} {h0 h : Heap} (W : SW kb d sb (cB c) h0 h) {N : Nat} (hd : d.size = N) (hN : N ≤ 10000000) (hc : c ≤ 900) (cap : Option Nat) {lo hi a : Nat} (ha1 : lo + 1 ≤ a) (ha2 : a + 1 < hi) (hh : hi ≤ N) {n : Nat} (hn : 11 ≤ n) :
    ∃ h' a' c', (rc pg n).fn 141 [.slr kb 0 N 3 cap, D.int a, .ptr sb 0, cF] h = some (.ret (D.int ((a' : Nat) : Int)), h') ∧ SW kb d sb (cB c') h0 h' ∧ c' ≤ c + 3 ∧ lo ≤ a' ∧ a' < hi := by
  obtain ⟨m, rfl, ee⟩ := fn_body (pg := pg) (f := 141) (args := [.slr kb 0 N 3 cap, D.int a, .ptr sb 0, cF]) (h := h) (show 0 < n by omega) rfl rfl
  rw [ee]
  have w1 : IntKind.i64.wrap ((a : Int) - 1) = ((a - 1 : Nat) : Int) := wn (by omega) (by omega)
  have w2 : IntKind.i64.wrap ((a : Int) + 1) = ((a + 1 : Nat) : Int) := wn (by omega) (by omega)
  obtain ⟨u, hu⟩ : ∃ u, u = a - 1 := ⟨_, rfl⟩
  obtain ⟨v, hv⟩ : ∃ v, v = a + 1 := ⟨_, rfl⟩
  rw [← hu] at w1
  rw [← hv] at w2
  obtain ⟨H1, hH1⟩ : ∃ H, H = (h.bump 18).bump 18 := ⟨_, rfl⟩
  have W1 : SW kb d sb (cB c) h0 H1 := hH1 ▸ (W.bump 18).bump 18
  obtain ⟨h1, a1, c1, r1, V1, hc1, p1, p2⟩ := med_sh W1 hd hN hc cap (a := u) (b := a) (e := v) (lo := lo) (hi := hi) (by omega) (by omega) (by omega) (by omega) (by omega) (by omega) hh (n := m) (by omega)
  have s1 := call_sh (pg := pg) (f := 142) rfl r1
  simp [k141, Env.v_ini, w1, w2, ← hH1, s1]
  refine ⟨_, a1, ⟨rfl, rfl⟩, c1, ?_, by omega, p1, p2⟩
  repeat' first | exact V1 | refine SW.bump ?_ _
end Go.Proofs.YtlddgfkdicgbeaaGreatDoor
/- The library's sort: some pivot, by the program. -/
namespace Go.Proofs.YtlddgfkdicgbeaaGreatDoor
open Go Go.Em
set_option maxRecDepth 100000
set_option maxHeartbeats 16000000 in
theorem piv_sh {kb : Nat} {d : Array EE} {h : Heap} (hg : h.get kb = some (.cells 74 (eCs d))) (hk : kb < h.next) (hf : h.Fr) {N : Nat} (hd : d.size = N) (hN : N ≤ 10000000) (cap : Option Nat) {a b : Nat} (h8 : 8 ≤ b - a) (hb : b ≤ N) {n : Nat} (hn : 60 ≤ n) :
    ∃ h' p hint, (rc pg n).fn 110 [.slr kb 0 N 3 cap, D.int a, D.int b, cF] h = some (.ret (.tup [D.int ((p : Nat) : Int), D.int ((hint : Nat) : Int)]), h') ∧ SD kb d h h' ∧ a ≤ p ∧ p < b := by
  obtain ⟨m, rfl, e⟩ := fn_body (pg := pg) (f := 110) (args := [.slr kb 0 N 3 cap, D.int a, D.int b, cF]) (h := h) (show 0 < n by omega) rfl rfl
  rw [e]
  have sd := SD.refl hg hk hf
  have hfr : ∀ j, h.raw (h.next + j) = none := fun j => hf _ (by omega)
  obtain ⟨len, hlen⟩ : ∃ len, len = b - a := ⟨_, rfl⟩
  rw [← hlen] at h8
  obtain ⟨q, hq⟩ : ∃ q, q = len / 4 := ⟨_, rfl⟩
  obtain ⟨q2, hq2⟩ : ∃ q2, q2 = q * 2 := ⟨_, rfl⟩
  obtain ⟨q3, hq3⟩ : ∃ q3, q3 = q * 3 := ⟨_, rfl⟩
  obtain ⟨i, hi⟩ : ∃ i, i = a + q := ⟨_, rfl⟩
  obtain ⟨j, hj⟩ : ∃ j, j = a + q2 := ⟨_, rfl⟩
  obtain ⟨k, hkk⟩ : ∃ k, k = a + q3 := ⟨_, rfl⟩
  have w0 : bin .quo (.int .i64 (len : Int)) (.int .i64 4) = some (.int .i64 (q : Int)) := by
    rw [bin_quo (by omega), wn (m := q) (by rw [hq, Int.tdiv_eq_ediv_of_nonneg (by omega)]; omega) (by omega)]
  have w1 : IntKind.i64.wrap (q : Int) = (q : Int) := wn (by omega) (by omega)
  have w2 : IntKind.i64.wrap ((q : Int) * 2) = (q2 : Int) := wn (by omega) (by omega)
  have w3 : IntKind.i64.wrap ((q : Int) * 3) = (q3 : Int) := wn (by omega) (by omega)
  have w4 : IntKind.i64.wrap ((b : Int) - (a : Int)) = (len : Int) := wn (by omega) (by omega)
  have w5 : IntKind.i64.wrap ((a : Int) + (q : Int)) = (i : Int) := wn (by omega) (by omega)
  have w6 : IntKind.i64.wrap ((a : Int) + (q2 : Int)) = (j : Int) := wn (by omega) (by omega)
  have w7 : IntKind.i64.wrap ((a : Int) + (q3 : Int)) = (k : Int) := wn (by omega) (by omega)
  have h8' : (8 : Int) ≤ (len : Int) := by omega
  obtain ⟨sb, hsb⟩ : ∃ sb, sb = h.next + 137 := ⟨_, rfl⟩
  obtain ⟨H1, hH1⟩ : ∃ H, H = (((((((((h.bump 63).bump 63).bump 63).set sb (some (cB 0))).bump 63).bump 63).bump 63).bump 63).bump 63).bump 63 := ⟨_, rfl⟩
  have W1 : SW kb d sb (cB 0) h H1 := by
    rw [hH1]
    have W0 : SW kb d sb (cB 0) h ((((h.bump 63).bump 63).bump 63).set sb (some (cB 0))) := SW.new (((sd.bump 63).bump 63).bump 63) (by omega) (by rw [hsb]; simp) _
    repeat' first | exact W0 | refine SW.bump ?_ _
  have c0 : cB 0 = Blk.cells 3 [D.val (.int .i64 0)] := rfl
  rw [c0, hsb] at hH1
  rw [hsb] at W1
  by_cases h50 : 50 ≤ len
  · have h50' : (50 : Int) ≤ (len : Int) := by omega
    obtain ⟨h1, i1, c1, r1, V1, hc1, p1, p2⟩ := meda_sh W1 hd hN (by omega) cap (lo := a) (hi := b) (a := i) (by omega) (by omega) hb (n := m) (by omega)
    have s1 := call_sh (pg := pg) (f := 141) rfl r1
    obtain ⟨H2, hH2⟩ : ∃ H, H = h1.bump 63 := ⟨_, rfl⟩
    obtain ⟨h2, j1, c2, r2, V2, hc2, q1', q2'⟩ := meda_sh (hH2 ▸ V1.bump 63 : SW kb d _ _ h H2) hd hN (by omega) cap (lo := a) (hi := b) (a := j) (by omega) (by omega) hb (n := m) (by omega)
    have s2 := call_sh (pg := pg) (f := 141) rfl r2
    obtain ⟨H3, hH3⟩ : ∃ H, H = h2.bump 63 := ⟨_, rfl⟩
    obtain ⟨h3, k1, c3, r3, V3, hc3, t1, t2⟩ := meda_sh (hH3 ▸ V2.bump 63 : SW kb d _ _ h H3) hd hN (by omega) cap (lo := a) (hi := b) (a := k) (by omega) (by omega) hb (n := m) (by omega)
    have s3 := call_sh (pg := pg) (f := 141) rfl r3
    obtain ⟨H4, hH4⟩ : ∃ H, H = h3.bump 63 := ⟨_, rfl⟩
    obtain ⟨h4, p, c4, r4, V4, hc4, u1, u2⟩ := med_sh (hH4 ▸ V3.bump 63 : SW kb d _ _ h H4) hd hN (by omega) cap p1 p2 q1' q2' t1 t2 hb (n := m) (by omega)
    have s4 := call_sh (pg := pg) (f := 142) rfl r4
    have gs := V4.s
    by_cases z : c4 = 0
    · subst z
      simp [k110, Env.v_ini, w0, w1, w2, w3, w4, w5, w6, w7, h8', h50', hfr, Nat.add_assoc, ← hH1, s1, ← hH2, s2, ← hH3, s3, ← hH4, s4, gs]
      refine ⟨_, p, ⟨⟨rfl, 1, rfl⟩, rfl⟩, ?_, u1, u2⟩
      repeat' first | exact V4.sd | refine SD.bump ?_ _
    · have z' : ((c4 : Int) == 0) = false := by simp; omega
      by_cases y : c4 = 12
      · have y' : ((c4 : Int) == 12) = true := by simp; omega
        simp [-beq_eq_false_iff_ne, -beq_iff_eq, k110, Env.v_ini, w0, w1, w2, w3, w4, w5, w6, w7, h8', h50', hfr, Nat.add_assoc, ← hH1, s1, ← hH2, s2, ← hH3, s3, ← hH4, s4, gs, z', y']
        refine ⟨_, p, ⟨⟨rfl, 2, rfl⟩, rfl⟩, ?_, u1, u2⟩
        repeat' first | exact V4.sd | refine SD.bump ?_ _
      · have y' : ((c4 : Int) == 12) = false := by simp; omega
        simp [-beq_eq_false_iff_ne, -beq_iff_eq, k110, Env.v_ini, w0, w1, w2, w3, w4, w5, w6, w7, h8', h50', hfr, Nat.add_assoc, ← hH1, s1, ← hH2, s2, ← hH3, s3, ← hH4, s4, gs, z', y']
        refine ⟨_, p, ⟨⟨rfl, 0, rfl⟩, rfl⟩, ?_, u1, u2⟩
        repeat' first | exact V4.sd | refine SD.bump ?_ _
  · have h50' : ¬ (50 : Int) ≤ (len : Int) := by omega
    obtain ⟨h4, p, c4, r4, V4, hc4, u1, u2⟩ := med_sh W1 hd hN (by omega) cap (lo := a) (hi := b) (a := i) (b := j) (e := k) (by omega) (by omega) (by omega) (by omega) (by omega) (by omega) hb (n := m) (by omega)
    have s4 := call_sh (pg := pg) (f := 142) rfl r4
    have gs := V4.s
    by_cases z : c4 = 0
    · subst z
      simp [k110, Env.v_ini, w0, w1, w2, w3, w4, w5, w6, w7, h8', h50', hfr, Nat.add_assoc, ← hH1, s4, gs]
      refine ⟨_, p, ⟨⟨rfl, 1, rfl⟩, rfl⟩, ?_, u1, u2⟩
      repeat' first | exact V4.sd | refine SD.bump ?_ _
    · have z' : ((c4 : Int) == 0) = false := by simp; omega
      have y' : ((c4 : Int) == 12) = false := by simp; omega
      simp [-beq_eq_false_iff_ne, -beq_iff_eq, k110, Env.v_ini, w0, w1, w2, w3, w4, w5, w6, w7, h8', h50', hfr, Nat.add_assoc, ← hH1, s4, gs, z', y']
      refine ⟨_, p, ⟨⟨rfl, 0, rfl⟩, rfl⟩, ?_, u1, u2⟩
      repeat' first | exact V4.sd | refine SD.bump ?_ _
end Go.Proofs.YtlddgfkdicgbeaaGreatDoor
