/- Grow where it refuses the net or the claim; a closed net as numbers that may be none. -/
import Derived.Test.YtlkpikdfbodhoaaDoorNg5
import Derived.Test.YtlkpikdfbodhoaaDoorGm
namespace Go.Proofs.YtlkpikdfbodhoaaDoor
open Go Go.Em Go.Em.Net
set_option maxRecDepth 100000
theorem net_form {M : List Int} {R : List (List Int)} (h : netOk M R = true) : formF M R = true := by
  unfold netOk at h
  rw [Bool.and_eq_true] at h
  exact h.1
theorem rsB_at : ∀ {M : List Int}, rsB M = true → Rise M
  | [], _ => List.Pairwise.nil
  | [a], _ => List.pairwise_singleton _ _
  | a :: b :: l, h => by
    have h1 := rsB_lt h
    rw [rsB, Bool.and_eq_true] at h
    exact List.Pairwise.cons h1 (rsB_at h.2)
theorem nok_of {M : List Int} {R : List (List Int)} (h : netOk M R = true) : NOk M (aR R) := by
  have hf := net_form h
  have hr := h
  rw [net_both] at hr
  unfold rcB at hr
  simp only [Bool.and_eq_true, beq_iff_eq] at hr
  obtain ⟨h1, h2, h3, h4, h5⟩ := hr
  have hb := fun i hi => rwB_iff.1 (rwA_at h4 (i := i) hi)
  refine ⟨by simpa using h1, rsB_at h2, fun v hv => ⟨(mem_at (P := fun v => 0 ≤ v)).2 (fun i hi => (hb i hi).1.1) v hv, (mem_at (P := fun v => v ≤ 2048)).2 (fun i hi => (hb i hi).1.2) v hv⟩, fun i hi => (hb i hi).2.2.1, inA_wd (rwA_inA h4), fun i j k hi hj hk ha hb' => ?_⟩
  have h6 := List.all_eq_true.1 (List.all_eq_true.1 (List.all_eq_true.1 h5 i (by simpa using hi)) j (by simpa using hj)) k (by simpa using hk)
  unfold triB at h6
  simp only [Bool.or_eq_true, beq_iff_eq, decide_eq_true_eq] at h6
  rcases h6 with h6 | h6 | h6
  · exact absurd h6 ha
  · exact absurd h6 hb'
  · exact h6
def decM (n : Nat) (A : Nat → Nat → Int) : Mx := fun i j => if i < n ∧ j < n then (if A i j = 1000000000 then none else some (A i j)) else none
theorem dec_some {n : Nat} {A : Nat → Nat → Int} {i j : Nat} {z : Int} (h : decM n A i j = some z) : i < n ∧ j < n ∧ A i j ≠ 1000000000 ∧ A i j = z := by
  unfold decM at h
  split at h
  · rename_i hij
    split at h
    · cases h
    · rename_i hf
      exact ⟨hij.1, hij.2, hf, Option.some.inj h⟩
  · cases h
theorem dec_of {n : Nat} {A : Nat → Nat → Int} {i j : Nat} (hi : i < n) (hj : j < n) (h : A i j ≠ 1000000000) : decM n A i j = some (A i j) := by
  unfold decM
  rw [if_pos ⟨hi, hj⟩, if_neg h]
theorem enc_dec {n : Nat} {A : Nat → Nat → Int} {i j : Nat} (hi : i < n) (hj : j < n) : encM (decM n A) i j = A i j := by
  by_cases h : A i j = 1000000000
  · have : decM n A i j = none := by unfold decM; rw [if_pos ⟨hi, hj⟩, if_pos h]
    unfold encM
    rw [this, h]
    rfl
  · exact enc_some (dec_of hi hj h)
theorem dec_cl {M : List Int} {A : Nat → Nat → Int} (o : NOk M A) : Cl M.length (decM M.length A) := by
  refine ⟨fun i hi => ?_, fun {i q j a b} h1 h2 => ?_, fun i j h => if_neg h⟩
  · have := o.diag i hi
    rw [dec_of hi hi (by omega), this]
  · obtain ⟨a1, a2, a3, rfl⟩ := dec_some h1
    obtain ⟨b1, b2, b3, rfl⟩ := dec_some h2
    have hv := o.via i q j a1 a2 b2 a3 b3
    have hn : A i j ≠ 1000000000 := by
      have w1 := o.wide i q a1 a2
      have w2 := o.wide q j b1 b2
      omega
    exact ⟨_, dec_of a1 b2 hn, hv⟩
theorem nr_canon (M : List Int) (R : List (List Int)) : D.canonL [nrD M R] = true := by
  have h1 := ints_canonL M
  have h2 := rw_canon R
  simp [nrD, intsD, rwD, h1, h2]
set_option maxHeartbeats 8000000 in
theorem grow_ref (M : List Int) (R : List (List Int)) (c : Clm) (h : netOk M R = false) {n : Nat} (hn : 1000 ≤ n) : pureCall (rc pg n) 19 [nrD M R, clD c] = some (.ret (.tup [nilN, D.int 22])) := by
  obtain ⟨m, rfl, e⟩ := body (pg := pg) (f := 19) (args := [nrD M R, clD c]) (show 0 < n by omega) rfl rfl
  rw [e]
  have f1 := fun h => call_of (h := h) (pg := pg) (f := 21) rfl (nr_canon M R) (check_gen M R (show 500 ≤ m by omega))
  rw [h] at f1
  have o3 : ∀ (z : Bool) (l : List D), D.one (.sl z l) = true := fun _ _ => rfl
  simp only [nrD, intsD, rwD] at f1
  simp [k19, Env.v_ini, nrD, intsD, rwD, clD, clC, D.cells, D.one, o3, f1, nilN]
set_option maxHeartbeats 8000000 in
theorem grow_claim (M : List Int) (R : List (List Int)) (c : Clm) (h : netOk M R = true) (hc : okF c = false) {n : Nat} (hn : 1000 ≤ n) : pureCall (rc pg n) 19 [nrD M R, clD c] = some (.ret (.tup [nilN, D.int 20])) := by
  obtain ⟨m, rfl, e⟩ := body (pg := pg) (f := 19) (args := [nrD M R, clD c]) (show 0 < n by omega) rfl rfl
  rw [e]
  have f1 := fun h => call_of (h := h) (pg := pg) (f := 21) rfl (nr_canon M R) (check_gen M R (show 500 ≤ m by omega))
  rw [h] at f1
  have f2 := fun h => call_of (h := h) (pg := pg) (f := 27) rfl (by simp [clD, clC]) (@ck_run c m (by omega))
  have hk : ckF c = 20 := by unfold ckF; rw [hc]; rfl
  rw [hk] at f2
  have o3 : ∀ (z : Bool) (l : List D), D.one (.sl z l) = true := fun _ _ => rfl
  simp only [nrD, intsD, rwD, clD, clC] at f1 f2
  simp [k19, Env.v_ini, nrD, intsD, rwD, clD, clC, D.cells, D.one, o3, f1, f2, nilN]
set_option maxHeartbeats 8000000 in
theorem rgrow_ref (M : List Int) (R : List (List Int)) (c : Clm) (h : netOk M R = false) {n : Nat} (hn : 1000 ≤ n) : pureCall (rc pg n) 20 [nrD M R, clD c] = some (.ret (.tup [nilN, D.int 22])) := by
  obtain ⟨m, rfl, e⟩ := body (pg := pg) (f := 20) (args := [nrD M R, clD c]) (show 0 < n by omega) rfl rfl
  rw [e]
  have f1 := fun h => call_of (h := h) (pg := pg) (f := 64) rfl (nr_canon M R) (closed_run M R (show 400 ≤ m by omega))
  rw [← net_both, h] at f1
  have o3 : ∀ (z : Bool) (l : List D), D.one (.sl z l) = true := fun _ _ => rfl
  simp only [nrD, intsD, rwD] at f1
  simp [k20, Env.v_ini, nrD, intsD, rwD, clD, clC, D.cells, D.one, o3, f1, nilN]
set_option maxHeartbeats 8000000 in
theorem rgrow_claim (M : List Int) (R : List (List Int)) (c : Clm) (h : netOk M R = true) (hc : okF c = false) {n : Nat} (hn : 1000 ≤ n) : pureCall (rc pg n) 20 [nrD M R, clD c] = some (.ret (.tup [nilN, D.int 20])) := by
  obtain ⟨m, rfl, e⟩ := body (pg := pg) (f := 20) (args := [nrD M R, clD c]) (show 0 < n by omega) rfl rfl
  rw [e]
  have f1 := fun h => call_of (h := h) (pg := pg) (f := 64) rfl (nr_canon M R) (closed_run M R (show 400 ≤ m by omega))
  rw [← net_both, h] at f1
  have f2 := fun h => call_of (h := h) (pg := pg) (f := 28) rfl (by simp [clD, clC]) (@rck_run c m (by omega))
  have hk : ckF c = 20 := by unfold ckF; rw [hc]; rfl
  rw [hk] at f2
  have o3 : ∀ (z : Bool) (l : List D), D.one (.sl z l) = true := fun _ _ => rfl
  simp only [nrD, intsD, rwD, clD, clC] at f1 f2
  simp [k20, Env.v_ini, nrD, intsD, rwD, clD, clC, D.cells, D.one, o3, f1, f2, nilN]
end Go.Proofs.YtlkpikdfbodhoaaDoor
/- A net grows by a claim, by the program: for whatever closed net. -/
namespace Go.Proofs.YtlkpikdfbodhoaaDoor
open Go Go.Em Go.Em.Net
set_option maxRecDepth 100000
theorem fit_factsW {n : Nat} {W : Mx} {a b : Nat} {e f : Int} (h : Fit n W a b e f) (hW : ∀ i j z, W i j = some z → -40000000 ≤ z ∧ z ≤ 40000000) (he : -100000 ≤ e ∧ e ≤ 100000) (hf : -100000 ≤ f ∧ f ≤ 100000) :
    Lw W a b e f a a = some 0 ∧ Out n (Lw W a b e f) ∧ Bt (Lw W a b e f) ∧ Bt (comb (Lw W a b e f) a) ∧ comb (Lw W a b e f) a b b = some 0 ∧ Out n (comb (Lw W a b e f) a) ∧ Bt (comb (comb (Lw W a b e f) a) b) := by
  have b1 : ∀ i j z, Lw W a b e f i j = some z → -40000000 ≤ z ∧ z ≤ 40000000 := fun i j z hz => by
    rcases Lw_or h.ne hz with k | ⟨_, _, rfl⟩ | ⟨_, _, rfl⟩
    · exact hW _ _ _ k
    · omega
    · omega
  have b2 := fun i j z (hz : comb (Lw W a b e f) a i j = some z) => comb_bd b1 (by omega) hz
  have b3 : ∀ i j z, comb (comb (Lw W a b e f) a) b i j = some z → -80100000 ≤ z ∧ z ≤ 80100000 := fun i j z hz => by
    rw [h.over] at hz
    rcases Fw_or hz with k | ⟨x, y, k1, k2, rfl⟩ | ⟨x, y, k1, k2, rfl⟩
    · have := hW _ _ _ k; omega
    · have := hW _ _ _ k1; have := hW _ _ _ k2; omega
    · have := hW _ _ _ k1; have := hW _ _ _ k2; omega
  have dg : ∀ i, i < n → Lw W a b e f i i = some 0 := fun i hi => by
    unfold Lw setM
    rw [if_neg (fun k => h.ne (k.2.symm.trans k.1)), if_neg (fun k => h.ne (k.1.symm.trans k.2))]
    exact h.cl.diag i hi
  have ho : Out n (Lw W a b e f) := fun i j hij => by
    cases k : Lw W a b e f i j with
    | none => rfl
    | some z =>
      refine absurd ?_ hij
      rcases Lw_or h.ne k with k | ⟨rfl, rfl, _⟩ | ⟨rfl, rfl, _⟩
      · exact h.cl.lt k
      · exact ⟨h.ha, h.hb⟩
      · exact ⟨h.hb, h.ha⟩
  obtain ⟨l1, l2, l3⟩ := h.le_net
  refine ⟨dg a h.ha, ho, fun i j z hz => by have := b1 i j z hz; omega, fun i j z hz => by have := b2 i j z hz; omega, ?_, ho.comb h.ha, fun i j z hz => by have := b3 i j z hz; omega⟩
  obtain ⟨z, g1, g2⟩ := comb_le (k := a) (dg b h.hb)
  obtain ⟨y, g3, g4⟩ := (h.closed.comb (le_Lw h.ne l1 l2 l3) a) _ _ _ g1
  rw [h.closed.diag b h.hb] at g3
  have := Option.some.inj g3
  rw [g1]; congr 1; omega
set_option maxHeartbeats 16000000 in
theorem grow_vW {M' Z : List Int} (hl : M'.length ≤ 64) {W : Mx} {c : Clm} {p q : Nat} (ft : Fit M'.length W p q c.hi (-c.lo)) (hW : ∀ i j z, W i j = some z → -40000000 ≤ z ∧ z ≤ 40000000) (he : -100000 ≤ c.hi ∧ c.hi ≤ 100000) (hf : -100000 ≤ c.lo ∧ c.lo ≤ 100000) {kb mb : Nat} {ks : List Nat} {h : Heap} (t : GrH M' Z (encM W) c kb mb ks h) (y : Env 101) (v3 : y.v 3 = .ptr 3 0) (v4 : y.v 4 = .ptr 4 0) (v8 : y.v 8 = .ptr 513 0) (v9 : y.v 9 = D.int p) (v10 : y.v 10 = D.int q) {n : Nat} (hn : 1000 ≤ n) :
    endK (rc pg n) [(.cell 4 40, true, 2), (.tmp 5, false, 0)] (k19v.ev ⟨pg, 101, none⟩ (rc pg n) ⟨y.l, h, []⟩) = some (.ret (.tup [if inA M'.length (encM (comb (comb (Lw W p q c.hi (-c.lo)) p) q)) = true then nD M' (encM (comb (comb (Lw W p q c.hi (-c.lo)) p) q)) else nilN, D.int (if inA M'.length (encM (comb (comb (Lw W p q c.hi (-c.lo)) p) q)) = true then 0 else 2)])) := by
  obtain ⟨d1, d2, d3, d4, d5, d6, d7⟩ := fit_factsW ft hW he (by omega)
  have hWb : Bt W := fun i j z hz => by have := hW i j z hz; omega
  obtain ⟨e1, bt1⟩ := low_encS hWb p q he.1 he.2
  obtain ⟨e2, bt2⟩ := low_encS bt1 q p (e := -c.lo) (by omega) (by omega)
  rw [← lowM_O W ft.ne] at e2
  have t1 := t.bump 101
  obtain ⟨h1, r1, m1, on1, f1⟩ := lower_sh t1.mat t1.fr (sS M' kb) rfl ft.ha ft.hb c.hi (f := n) (by omega)
  have c1 := call_sh (pg := pg) (f := 61) rfl r1
  rw [e1] at m1
  have t2 := (t1.only on1 m1 f1).bump 101
  obtain ⟨h2, r2, m2, on2, f2⟩ := lower_sh t2.mat t2.fr (sS M' kb) rfl ft.hb ft.ha (-c.lo) (f := n) (by omega)
  have c2 := call_sh (pg := pg) (f := 61) rfl r2
  rw [e2] at m2
  have t3 := (t2.only on2 m2 f2).bump 101
  obtain ⟨tm1, ts1⟩ := tame1 d1 d2 ft.ha d3 d4
  obtain ⟨h3, r3, m3, on3, f3⟩ := ths_sh (kb := kb) rfl hl t3.mat t3.fr ft.ha tm1 (f := n) (by omega)
  have c3 := call_sh (pg := pg) (f := 62) rfl r3
  rw [ts1] at m3
  have t4 := (t3.only on3 m3 f3).bump 101
  obtain ⟨tm2, ts2⟩ := tame1 d5 d6 ft.hb d4 d7
  obtain ⟨h4, r4, m4, on4, f4⟩ := ths_sh (kb := kb) rfl hl t4.mat t4.fr ft.hb tm2 (f := n) (by omega)
  have c4 := call_sh (pg := pg) (f := 62) rfl r4
  rw [ts2] at m4
  have t5 := (t4.only on4 m4 f4).bump 101
  obtain ⟨G, hG⟩ : ∃ G, G = comb (comb (Lw W p q c.hi (-c.lo)) p) q := ⟨_, rfl⟩
  rw [← hG] at t5 ⊢
  have c5 := call_flatg (h := h4.bump 101) (pg := pg) (f := 63) (a := .agg [sS M' kb, rowS M'.length mb]) (args := []) (bs := [nD M' (encM G)]) (ks := kb :: mb :: ks) rfl (by
    have z1 : frz (h4.bump 101) 23 (sS M' kb) = _ := frz_sS (d := 21) t5.ml
    have z2 : frz (h4.bump 101) 23 (rowS M'.length mb) = _ := frz_mat (d := 20) t5.mat
    show each (frz (h4.bump 101) 24) _ = _
    simp only [each_cons, each_nil, frz_agg', z1, z2, eachK_some, Option.map_some]
    simp [nD]) (inA_gen hl (encM G) (n := n) (by omega)) rfl
  have u1 := t1.only on1 m1 f1
  have u2 := t2.only on2 m2 f2
  have u3 := t3.only on3 m3 f3
  have u4 := t4.only on4 m4 f4
  rw [← hG] at u4
  have g3 := t.g3
  have g8 := t.g8
  have g31 := u1.g3
  have g81 := u1.g8
  have g82 := u2.g8
  have g83 := u3.g8
  have g84 := u4.g8
  have g44 := u4.g4
  simp only [clC] at g3 g31
  simp only [nil2] at g44
  simp only [sS, rowS] at g8 g81 g82 g83 g84 c1 c2 c3 c4 c5
  have n4 := t.n4
  have w1 : IntKind.i64.wrap (-c.lo) = -c.lo := wrap_i64 (by omega) (by omega)
  obtain ⟨H, hH⟩ : ∃ H, H = ((h4.bump 101).bump 101).set 4 (some (.cells 40 [.slr kb 0 M'.length 1 none, .slr mb 0 M'.length 1 (some M'.length)])) := ⟨_, rfl⟩
  have z1 : frz H 22 (D.slr kb 0 M'.length 1 none) = _ := frz_sS (M := M') (Z := Z) (d := 20) (by rw [hH]; simp [n4.1, u4.ml])
  have gH4 : H.get 4 = some (.cells 40 [.slr kb 0 M'.length 1 none, .slr mb 0 M'.length 1 (some M'.length)]) := by rw [hH]; simp
  have hm4 := u4.mat
  have z2 : frz H 22 (D.slr mb 0 M'.length 1 (some M'.length)) = _ := frz_mat (n := M'.length) (A := encM G) (ks := ks) (d := 19) (by
    rw [hH]
    refine ⟨hm4.len, by simp [n4.2, hm4.top], hm4.nd, fun q hq => by have := hm4.lt q hq; simp; omega, fun j hj => ?_, by have := hm4.mlt; simp; omega⟩
    have : ks[j] ≠ 4 := fun e => t.nk.2.2.1 (by rw [← e]; exact List.getElem_mem hj)
    simp [this, hm4.row j hj])
  cases hi : inA M'.length (encM G) with
  | true =>
    rw [hi] at c5
    simp [-frz_slr, k19v, v3, v4, v8, v9, v10, g3, g8, g31, g81, g82, g83, g84, g44, c1, c2, c3, c4, c5, w1, D.cells, D.one, ← hH, gH4, z1, z2]
    simp [nD]
  | false =>
    rw [hi] at c5
    simp [-frz_slr, k19v, v3, v4, v8, v9, v10, g3, g8, g31, g81, g82, g83, g84, g44, c1, c2, c3, c4, c5, w1, D.cells, D.one]
    simp [nilN]
set_option maxHeartbeats 16000000 in
theorem grow_okW {M' Z : List Int} (hl : M'.length ≤ 64) {W : Mx} {c : Clm} {p q : Nat} (ft : Fit M'.length W p q c.hi (-c.lo)) (hW : ∀ i j z, W i j = some z → -40000000 ≤ z ∧ z ≤ 40000000) (he : -100000 ≤ c.hi ∧ c.hi ≤ 100000) (hf : -100000 ≤ c.lo ∧ c.lo ≤ 100000) (hb1 : ¬ encM W p q < c.lo) (hb2 : ¬ encM W q p < -c.hi) {kb mb : Nat} {ks : List Nat} {h : Heap} (t : GrH M' Z (encM W) c kb mb ks h) (y : Env 101) (v3 : y.v 3 = .ptr 3 0) (v4 : y.v 4 = .ptr 4 0) (v8 : y.v 8 = .ptr 513 0) (v9 : y.v 9 = D.int p) (v10 : y.v 10 = D.int q) {n : Nat} (hn : 1000 ≤ n) :
    endK (rc pg n) [(.cell 4 40, true, 2), (.tmp 5, false, 0)] (k19u.ev ⟨pg, 101, none⟩ (rc pg n) ⟨y.l, h, []⟩) = some (.ret (.tup [if inA M'.length (encM (comb (comb (Lw W p q c.hi (-c.lo)) p) q)) = true then nD M' (encM (comb (comb (Lw W p q c.hi (-c.lo)) p) q)) else nilN, D.int (if inA M'.length (encM (comb (comb (Lw W p q c.hi (-c.lo)) p) q)) = true then 0 else 2)])) := by
  have hp := ft.ha
  have hq := ft.hb
  have g3 := t.g3
  have g8 := t.g8
  have htop := t.mat.top
  have hlk := t.mat.len
  obtain ⟨rp, r1, r2, r3, r4⟩ := t.mat.at hp
  obtain ⟨rq, s1, s2, s3, s4⟩ := t.mat.at hq
  obtain ⟨L, hL⟩ : ∃ L, L = ks.map (rowS M'.length) := ⟨_, rfl⟩
  rw [← hL] at htop r1 s1
  have hLl : L.length = M'.length := by rw [hL]; simp [hlk]
  simp only [clC] at g3
  simp only [sS, rowS] at g8 r1 s1
  have y2 := fun a => yCs_len M'.length a
  have q1 := fun A h' => yCs_at (n := M'.length) (y := A) hp h'
  have q2 := fun A h' => yCs_at (n := M'.length) (y := A) hq h'
  have p1 : p + 1 ≤ M'.length := hp
  have p2 : q + 1 ≤ M'.length := hq
  have w1 : IntKind.i64.wrap (-c.hi) = -c.hi := wrap_i64 (by omega) (by omega)
  have t' := t.bump 101
  have fin := fun y u3 u4 u8 u9 u10 => grow_vW hl ft hW he hf t' y u3 u4 u8 u9 u10 hn
  obtain ⟨B, hB⟩ : ∃ B, B = encM W := ⟨_, rfl⟩
  rw [← hB] at hb1 hb2 r4 s4
  simp [k19u, v3, v8, v9, v10, g3, g8, htop, r1, r4, s1, s4, hLl, hp, hq, y2, q1, q2, p1, p2, w1, hb1, hb2]
  exact fin _ (by simp [v3]) (by simp [v4]) (by simp [v8]) (by simp [v9]) (by simp [v10])
end Go.Proofs.YtlkpikdfbodhoaaDoor
/- Grow, by the program: for whatever closed net and claim. -/
namespace Go.Proofs.YtlkpikdfbodhoaaDoor
open Go Go.Em Go.Em.Net
set_option maxRecDepth 100000
def nM (M : List Int) (c : Clm) : List Int := rsL (M ++ [c.a, c.b])
def nW (M : List Int) (C : Mx) (c : Clm) : Mx := Ext (nM M c).length (rpF M (nM M c)) C
def nP (M : List Int) (c : Clm) : Nat := placeF (nM M c) c.a
def nQ (M : List Int) (c : Clm) : Nat := placeF (nM M c) c.b
def nG (M : List Int) (C : Mx) (c : Clm) : Mx := comb (comb (Lw (nW M C c) (nP M c) (nQ M c) c.hi (-c.lo)) (nP M c)) (nQ M c)
def nFit (M : List Int) (C : Mx) (c : Clm) : Prop := (∀ z, nW M C c (nQ M c) (nP M c) = some z → 0 ≤ z + c.hi) ∧ (∀ z, nW M C c (nP M c) (nQ M c) = some z → 0 ≤ z + -c.lo)
theorem nm_mem (M : List Int) (c : Clm) : c.a ∈ nM M c ∧ c.b ∈ nM M c := ⟨(rs_mem _ _).2 (by simp), (rs_mem _ _).2 (by simp)⟩
theorem nfit {M : List Int} {C : Mx} (cl : Cl M.length C) {c : Clm} (hc : okF c = true) (h : nFit M C c) : Fit (nM M c).length (nW M C c) (nP M c) (nQ M c) c.hi (-c.lo) := by
  have hm := nm_mem M c
  have hlo : c.lo ≤ c.hi := by
    have := ok_years hc
    omega
  refine ⟨cl.ext, (place_at hm.1).1, (place_at hm.2).1, fun e => ok_differ hc ?_, by omega, h.1, h.2⟩
  have e1 := (place_at hm.1).2
  have e2 := (place_at hm.2).2
  unfold nP nQ at e
  simp only [e] at e1
  exact e1.symm.trans e2
theorem nw_wide {M : List Int} {C : Mx} {c : Clm} (wd : ∀ i j z, C i j = some z → -40000000 ≤ z ∧ z ≤ 40000000) : ∀ i j z, nW M C c i j = some z → -40000000 ≤ z ∧ z ≤ 40000000 := fun i j z hz => by
  rcases Ext_or hz with ⟨_, rfl⟩ | ⟨_, a, b, _, _, e3⟩
  · omega
  · exact wd _ _ _ e3
open Classical in
noncomputable def nRes (M : List Int) (C : Mx) (c : Clm) : D := if nFit M C c then (if inA (nM M c).length (encM (nG M C c)) = true then .tup [nD (nM M c) (encM (nG M C c)), D.int 0] else .tup [nilN, D.int 2]) else .tup [nilN, D.int 25]
set_option maxHeartbeats 16000000 in
theorem grow_gen {M : List Int} {C : Mx} (ok : NOk M (encM C)) (cl : Cl M.length C) (wd : ∀ i j z, C i j = some z → -40000000 ≤ z ∧ z ≤ 40000000) {c : Clm} (hc : okF c = true) (k6 : (nM M c).length ≤ 64) {n : Nat} (hn : 200000 ≤ n) : pureCall (rc pg n) 19 [nD M (encM C), clD c] = some (.ret (nRes M C c)) := by
  obtain ⟨m, rfl, e⟩ := body (pg := pg) (f := 19) (args := [nD M (encM C), clD c]) (show 0 < n by omega) rfl rfl
  rw [e]
  have k3 := ok.len
  have hc1 := ints_canonL M
  have hc2 := rows_canonL M.length (encM C)
  have cn := fun h => call_of (h := h) (pg := pg) (f := 21) rfl (by simp [nD, intsD, rowsD, hc1, hc2]) (check_net ok (n := m) (by omega))
  simp only [nD, intsD, rowsD] at cn
  have o1 : ∀ a b c d (e : Option Nat), D.one (.slr a b c d e) = true := fun _ _ _ _ _ => rfl
  have o3 : ∀ (z : Bool) (l : List D), D.one (.sl z l) = true := fun _ _ => rfl
  have ck0 : ckF c = 0 := by
    unfold ckF
    rw [hc]; rfl
  have cc := fun h => call_of (h := h) (pg := pg) (f := 27) rfl (by simp [clD, clC]) (@ck_run c m (by omega))
  rw [ck0] at cc
  simp only [clD, clC] at cc
  have hz2 : zerosD [.int .i64 0] 1 2 = [D.int 0, D.int 0] := rfl
  obtain ⟨H1, hH1⟩ : ∃ H, H = ((((((((((Heap.empty.bump 101).set 2 (some (.cells 40 [intsD M, rowsD M.length (encM C)]))).set 3 (some (.cells 42 (clC c)))).set 4 (some (.cells 40 nil2))).bump 101).bump 101).bump 101).bump 101).bump 101).set 533 (some (.cells 3 [D.int c.a, D.int c.b]))).set 533 none := ⟨_, rfl⟩
  have hH1f : H1.Fr := by
    rw [hH1]
    repeat' first | exact Heap.Fr.empty | apply Heap.Fr.bump | apply Heap.Fr.set
    all_goals first | omega | (simp <;> omega)
  have hH1n : H1.next = 606 := by rw [hH1]; simp
  have g13 : H1.get 3 = some (.cells 42 (clC c)) := by rw [hH1]; simp
  have g14 : H1.get 4 = some (.cells 40 nil2) := by rw [hH1]; simp
  obtain ⟨x, hx⟩ : ∃ x, x = nM M c := ⟨_, rfl⟩
  have hmx : rsL (M ++ [c.a, c.b]) = x := hx.symm
  obtain ⟨⟨kb, mb, ks, Z⟩, h2, r2, m2, w1, w2, w3, w4, w5, w6, w7, w8, w9⟩ := wid_sh ok.rise k3 (encM C) c.a c.b (by rw [hmx, hx]; exact Nat.le_trans k6 (by omega)) hH1f (n := m) (by omega)
  rw [hmx] at r2 m2 w1
  simp only at r2 m2 w1 w2 w3 w4 w5 w6
  have c59 := call_sh (pg := pg) (f := 59) rfl r2
  rw [hH1n] at w4 w5 w6 w8 w9
  have g23 : h2.get 3 = some (.cells 42 (clC c)) := by unfold Heap.get at g13 ⊢; rw [w9 3 (by omega)]; exact g13
  have g24 : h2.get 4 = some (.cells 40 nil2) := by unfold Heap.get at g14 ⊢; rw [w9 4 (by omega)]; exact g14
  have hf8 : h2.raw 513 = none := by rw [w9 513 (by omega), hH1]; simp
  have hl64 : ¬ (64 : Int) < x.length := by rw [hx]; omega
  have m3 : Mat x.length (encM (nW M C c)) mb ks h2 := m2.congr fun a b ha hb' => by
    rw [wA_ext ok.rise cl ha hb', hx]; rfl
  have t3 : GrH x Z (encM (nW M C c)) c kb mb ks (((h2.set 513 (some (.cells 74 nil2))).set 513 (some (.cells 74 [sS x kb, rowS x.length mb]))).bump 101) := by
    refine GrH.bump ⟨⟨m3.len, by simp [show mb ≠ 513 by omega, m3.top], m3.nd, fun q hq => by simpa using m3.lt q hq, fun j hj => ?_, by simpa using m3.mlt⟩, by simp [show kb ≠ 513 by omega, w1], by simp [g23], by simp [g24], by simp, by simp; omega, ⟨w3, fun hq => by have := w6 _ hq; omega, fun hq => by have := w6 _ hq; omega, fun hq => by have := w6 _ hq; omega⟩, by omega, (w7.set _ (by omega)).set _ (by simp; omega)⟩ 101
    have := w6 _ (List.getElem_mem hj)
    simp [show ks[j] ≠ 513 by omega, m3.row j hj]
  have hyr := ok_years hc
  have hmm : c.a ∈ x ∧ c.b ∈ x := by rw [hx]; exact nm_mem M c
  have hrx : Rise x := by rw [hx]; exact rs_rise _
  have hxl : x.length ≤ 64 := by rw [hx]; exact k6
  have fin : ∀ (y : Env 101), y.v 3 = .ptr 3 0 → y.v 4 = .ptr 4 0 → y.v 8 = .ptr 513 0 → endK (rc pg m) [(.cell 4 40, true, 2), (.tmp 5, false, 0)] (k19t.ev ⟨pg, 101, none⟩ (rc pg m) ⟨y.l, ((h2.set 513 (some (.cells 74 nil2))).set 513 (some (.cells 74 [sS x kb, rowS x.length mb]))).bump 101, []⟩) = some (.ret (nRes M C c)) := by
    intro y v3 v4 v8
    refine grow_t hrx hxl hmm.1 hmm.2 t3 y v3 v4 v8 (by omega) fun y v3 v4 v8 v9 v10 => ?_
    have t4 := t3.bump 101
    by_cases hbx : nFit M C c
    · have ft := nfit cl hc hbx
      have hr : nRes M C c = .tup [if inA (nM M c).length (encM (nG M C c)) = true then nD (nM M c) (encM (nG M C c)) else nilN, D.int (if inA (nM M c).length (encM (nG M C c)) = true then 0 else 2)] := by
        unfold nRes
        rw [if_pos hbx]
        split <;> rfl
      rw [hr]
      subst hx
      refine grow_okW k6 ft (nw_wide wd) (by omega) (by omega) ?_ ?_ t4 y v3 v4 v8 v9 v10 (by omega)
      · cases e1 : nW M C c (nP M c) (nQ M c) with
        | none => simp [encM, enc, e1]; omega
        | some z => have := hbx.2 z e1; rw [enc_some e1]; omega
      · cases e1 : nW M C c (nQ M c) (nP M c) with
        | none => simp [encM, enc, e1]; omega
        | some z => have := hbx.1 z e1; rw [enc_some e1]; omega
    · have hr : nRes M C c = .tup [nilN, D.int 25] := by unfold nRes; rw [if_neg hbx]
      rw [hr]
      have hbad : encM (nW M C c) (nP M c) (nQ M c) < c.lo ∨ encM (nW M C c) (nQ M c) (nP M c) < -c.hi := by
        apply Decidable.byContradiction
        intro hn
        refine hbx ⟨fun z hz => ?_, fun z hz => ?_⟩
        · have := enc_some hz
          omega
        · have := enc_some hz
          omega
      subst hx
      exact grow_bad (place_at hmm.1).1 (place_at hmm.2).1 (by omega) hbad t4 y v3 v4 v8 v9 v10 (by omega)
  simp only [nD, intsD, rowsD, sS, rowS, nil2, clC] at c59 hH1 fin
  simp only [List.map_cons, List.map_nil] at c59
  simp [k19_eq, Env.v_ini, nD, intsD, rowsD, clD, clC, D.cells, D.one, cn, cc, hz2, chunk, ← hH1, c59, hf8, hl64]
  exact fin _ (by simp) (by simp) (by simp)
end Go.Proofs.YtlkpikdfbodhoaaDoor
/- Grow, by the program: too many marks; and its answer, whatever it is given. -/
namespace Go.Proofs.YtlkpikdfbodhoaaDoor
open Go Go.Em Go.Em.Net
set_option maxRecDepth 100000
theorem nm_len (M : List Int) (c : Clm) : (nM M c).length ≤ M.length + 2 := by
  unfold nM rsL
  have := dk_len (srtL (M ++ [c.a, c.b])) (M ++ [c.a, c.b]).length
  simpa using this
set_option maxHeartbeats 16000000 in
theorem grow_long {M : List Int} {C : Mx} (ok : NOk M (encM C)) (cl : Cl M.length C) (wd : ∀ i j z, C i j = some z → -40000000 ≤ z ∧ z ≤ 40000000) {c : Clm} (hc : okF c = true) (k6 : 64 < (nM M c).length) {n : Nat} (hn : 200000 ≤ n) : pureCall (rc pg n) 19 [nD M (encM C), clD c] = some (.ret (.tup [nilN, D.int 2])) := by
  obtain ⟨m, rfl, e⟩ := body (pg := pg) (f := 19) (args := [nD M (encM C), clD c]) (show 0 < n by omega) rfl rfl
  rw [e]
  have k3 := ok.len
  have hc1 := ints_canonL M
  have hc2 := rows_canonL M.length (encM C)
  have cn := fun h => call_of (h := h) (pg := pg) (f := 21) rfl (by simp [nD, intsD, rowsD, hc1, hc2]) (check_net ok (n := m) (by omega))
  simp only [nD, intsD, rowsD] at cn
  have o1 : ∀ a b c d (e : Option Nat), D.one (.slr a b c d e) = true := fun _ _ _ _ _ => rfl
  have o3 : ∀ (z : Bool) (l : List D), D.one (.sl z l) = true := fun _ _ => rfl
  have ck0 : ckF c = 0 := by
    unfold ckF
    rw [hc]; rfl
  have cc := fun h => call_of (h := h) (pg := pg) (f := 27) rfl (by simp [clD, clC]) (@ck_run c m (by omega))
  rw [ck0] at cc
  simp only [clD, clC] at cc
  have hz2 : zerosD [.int .i64 0] 1 2 = [D.int 0, D.int 0] := rfl
  obtain ⟨H1, hH1⟩ : ∃ H, H = ((((((((((Heap.empty.bump 101).set 2 (some (.cells 40 [intsD M, rowsD M.length (encM C)]))).set 3 (some (.cells 42 (clC c)))).set 4 (some (.cells 40 nil2))).bump 101).bump 101).bump 101).bump 101).bump 101).set 533 (some (.cells 3 [D.int c.a, D.int c.b]))).set 533 none := ⟨_, rfl⟩
  have hH1f : H1.Fr := by
    rw [hH1]
    repeat' first | exact Heap.Fr.empty | apply Heap.Fr.bump | apply Heap.Fr.set
    all_goals first | omega | (simp <;> omega)
  have hH1n : H1.next = 606 := by rw [hH1]; simp
  have g13 : H1.get 3 = some (.cells 42 (clC c)) := by rw [hH1]; simp
  have g14 : H1.get 4 = some (.cells 40 nil2) := by rw [hH1]; simp
  obtain ⟨x, hx⟩ : ∃ x, x = nM M c := ⟨_, rfl⟩
  have hmx : rsL (M ++ [c.a, c.b]) = x := hx.symm
  obtain ⟨⟨kb, mb, ks, Z⟩, h2, r2, m2, w1, w2, w3, w4, w5, w6, w7, w8, w9⟩ := wid_sh ok.rise k3 (encM C) c.a c.b (by rw [hmx, hx]; exact Nat.le_trans (nm_len M c) (by omega)) hH1f (n := m) (by omega)
  rw [hmx] at r2 m2 w1
  simp only at r2 m2 w1 w2 w3 w4 w5 w6
  have c59 := call_sh (pg := pg) (f := 59) rfl r2
  rw [hH1n] at w4 w5 w6 w8 w9
  have g23 : h2.get 3 = some (.cells 42 (clC c)) := by unfold Heap.get at g13 ⊢; rw [w9 3 (by omega)]; exact g13
  have g24 : h2.get 4 = some (.cells 40 nil2) := by unfold Heap.get at g14 ⊢; rw [w9 4 (by omega)]; exact g14
  have hf8 : h2.raw 513 = none := by rw [w9 513 (by omega), hH1]; simp
  have hl64 : (64 : Int) < x.length := by rw [hx]; omega
  have hn4 : (4 : Nat) ≠ 513 := by omega
  simp only [nD, intsD, rowsD, sS, rowS, nil2, clC] at c59 hH1 g24
  simp only [List.map_cons, List.map_nil] at c59
  simp [k19_eq, k19t, Env.v_ini, nD, intsD, rowsD, clD, clC, D.cells, D.one, cn, cc, hz2, chunk, ← hH1, c59, hf8, hl64, g24, nilN]
end Go.Proofs.YtlkpikdfbodhoaaDoor
/- Grow, by the program, whatever it is given; the document's marks. -/
namespace Go.Proofs.YtlkpikdfbodhoaaDoor
open Go Go.Em Go.Em.Net
set_option maxRecDepth 100000
noncomputable def growF (M : List Int) (R : List (List Int)) (c : Clm) : D :=
  if netOk M R = false then .tup [nilN, D.int 22] else if okF c = false then .tup [nilN, D.int 20] else if 64 < (nM M c).length then .tup [nilN, D.int 2] else nRes M (decM M.length (aR R)) c
theorem yCs_ext {n : Nat} {y z : Nat → Int} (h : ∀ j, j < n → y j = z j) : yCs n y = yCs n z := by
  unfold yCs
  refine List.map_congr_left fun j hj => ?_
  rw [h j (by simpa using hj)]
theorem nD_ext {M : List Int} {A B : Nat → Nat → Int} (h : ∀ i j, i < M.length → j < M.length → A i j = B i j) : nD M A = nD M B := by
  have e : rowsD M.length A = rowsD M.length B := by
    unfold rowsD
    congr 1
    refine List.map_congr_left fun i hi => ?_
    rw [yCs_ext fun j hj => h i j (by simpa using hi) hj]
  unfold nD
  rw [e]
theorem nok_ext {M : List Int} {A B : Nat → Nat → Int} (h : ∀ i j, i < M.length → j < M.length → A i j = B i j) (o : NOk M A) : NOk M B :=
  ⟨o.len, o.rise, o.in_, fun i hi => by rw [← h i i hi hi]; exact o.diag i hi, fun i j hi hj => by rw [← h i j hi hj]; exact o.wide i j hi hj, fun i j k hi hj hk ha hb => by
    rw [← h i j hi hj] at ha
    rw [← h j k hj hk] at hb
    rw [← h i k hi hk, ← h i j hi hj, ← h j k hj hk]
    exact o.via i j k hi hj hk ha hb⟩
theorem grow_all (M : List Int) (R : List (List Int)) (c : Clm) {n : Nat} (hn : 200000 ≤ n) : pureCall (rc pg n) 19 [nrD M R, clD c] = some (.ret (growF M R c)) := by
  unfold growF
  cases h : netOk M R with
  | false => exact grow_ref M R c h (by omega)
  | true =>
    rw [if_neg (by simp)]
    cases hc : okF c with
    | false => exact grow_claim M R c h hc (by omega)
    | true =>
      rw [if_neg (by simp)]
      have o := nok_of h
      have he : ∀ i j, i < M.length → j < M.length → aR R i j = encM (decM M.length (aR R)) i j := fun i j hi hj => (enc_dec hi hj).symm
      have o' := nok_ext he o
      have cl := dec_cl o
      have wd : ∀ i j z, decM M.length (aR R) i j = some z → -40000000 ≤ z ∧ z ≤ 40000000 := fun i j z hz => by
        obtain ⟨a1, a2, a3, rfl⟩ := dec_some hz
        have := o.wide i j a1 a2
        omega
      rw [form_nD (net_form h), nD_ext he]
      by_cases hl : 64 < (nM M c).length
      · rw [if_pos hl]
        exact grow_long o' cl wd hc hl hn
      · rw [if_neg hl]
        exact grow_gen o' cl wd hc (by omega) hn
theorem nm_ins {M : List Int} (hM : Rise M) (c : Clm) : insF (insF M c.a) c.b = nM M c :=
  rise_one (insF_rise (insF_rise hM _) _) (rs_rise _) fun v => by
    unfold nM
    rw [insF_mem, insF_mem, rs_mem, List.mem_append]
    simp [or_assoc]
theorem ix_pos (M : List Int) (v : Int) : ixP (· == v) 0 M = posF M v := by
  unfold posF
  by_cases h : v ∈ M
  · rw [if_pos h, ix_place h, Nat.zero_add]
  · rw [if_neg h]
    rcases ixP_ge (· == v) M 0 with ⟨h1, _⟩ | ⟨j, _, h2, _, h4⟩
    · exact h1
    · exfalso
      have := (ixP_any (· == v) M 0)
      have ha : M.any (· == v) = false := by
        rw [List.any_eq_false]
        intro x hx e
        exact h (by simp at e; rw [← e]; exact hx)
      rw [ha] at this
      simp only [decide_eq_false_iff_not] at this
      omega
theorem idx_run (M : List Int) (hM : M.length ≤ 100) (v : Int) {n : Nat} (hn : 200 ≤ n) : pureCall (rc pg n) 56 [intsD M, D.int v] = some (.ret (D.int (posF M v))) := by
  rw [← ix_pos]
  exact index_run M (by omega) v (by omega)
end Go.Proofs.YtlkpikdfbodhoaaDoor
