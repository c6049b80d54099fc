/- A net with further marks, by the program. -/
import Derived.Test.YtlkpikdfbodhoaaDoorGd
import Derived.Test.YtlkpikdfbodhoaaDoorGh
import Derived.Test.YtlkpikdfbodhoaaDoorQv1
import Derived.Test.YtlkpikdfbodhoaaDoorPl
namespace Go.Proofs.YtlkpikdfbodhoaaDoor
open Go Go.Em Go.Em.Net
set_option maxRecDepth 100000
theorem frz_sS {M Z : List Int} {kb d : Nat} {H : Heap} (hg : H.get kb = some (.cells 3 ((M ++ Z).map D.int))) : frz H (d + 2) (sS M kb) = some (intsD M, [kb]) := by
  unfold sS
  rw [frz_slr, hg, frzS_cells]
  have hle : 0 + M.length * 1 ≤ ((M ++ Z).map D.int).length ∧ 0 < 1 := by simp
  have htk : (((M ++ Z).map D.int).drop 0).take (M.length * 1) = M.map D.int := by
    rw [List.drop_zero, Nat.mul_one, List.map_append]
    exact List.take_left' (by simp)
  rw [if_pos hle, htk, each_canon H d _ (ints_canonL M)]
  simp only [Option.map_some]
  rw [chunk_ints]; rfl
theorem dcore_fzg {c : Cfg} {R : Rc} {base : Nat} (d : Option Nat) (f : FuncId) (args : List X) (wt : Nat) (e : List D) (h : Heap) (a : D) (l : List D) (bs : List D) (ks : List Nat) (o : D) (ho : o.flat = true) (hs' : c.pg.sh f = false) (hl : args.map (rd c.pg.gl e) = a :: l) (ha : each (frz h depth) (a :: l) = some (bs, ks)) (x : pureCall R f bs = some (.ret o)) :
    dcore c R base ⟨⟨none, d, .inr (.fn f args)⟩, some [], [], wt, false⟩ e h = some (o, h) := by
  have hk : h.kill (hids base e []) = h := by rw [hids_nil, kill_nil]
  have h1 : (ks.isEmpty || (Out.ret o).d.flat || mayKill base e [] [] false ks) = true := by
    show (ks.isEmpty || o.flat || _) = true
    rw [ho]; simp
  have h2 : thaw ks o h = h := by unfold thaw; rw [ho]; simp
  unfold dcore
  simp only [G.want, hs', Bool.false_eq_true, if_false, hk, hl, ha, pureA_cons, pureS, orS, x, Out.isPan, Out.d, beq_self_eq_true, if_true, h2, ho, Bool.or_true, Bool.true_or, Bool.and_self]
theorem place_dc {N : Nat} {M Z : List Int} (hM : Rise M) (hl : M.length ≤ 66) {kb : Nat} {v : Int} {n : Nat} (hn : 80 ≤ n) (s1 s2 d wt : Nat) (y : Env N) (b : Nat) (H : Heap) (h1 : y.v s1 = sS M kb) (h2 : y.v s2 = D.int v) (hg : H.get kb = some (.cells 3 ((M ++ Z).map D.int))) : dcore ⟨pg, N, none⟩ (rc pg n) b ⟨⟨none, some d, .inr (.fn 60 [.s s1, .s s2])⟩, some [], [], wt, false⟩ y.l H = some (D.int (posF M v), H) := by
  refine dcore_fzg _ _ _ _ _ _ (sS M kb) [D.int v] [intsD M, D.int v] [kb] _ rfl rfl (by simp [h1, h2]) ?_ (place_all6 M hM hl v hn)
  rw [each_cons, show depth = 22 + 2 from rfl, frz_sS (d := 22) hg]
  rfl
structure WdH (M M' Z : List Int) (A B : Nat → Nat → Int) (kb mb b2 b4 b5 : Nat) (ks : List Nat) (h0 h : Heap) : Prop where
  mat : Mat M'.length B mb ks h
  ml : h.get kb = some (.cells 3 ((M' ++ Z).map D.int))
  g2 : h.get b2 = some (.cells 40 [intsD M, rowsD M.length A])
  g4 : h.get b4 = some (.cells 74 nil2)
  g5 : h.get b5 = some (.cells 74 [sS M' kb, rowS M'.length mb])
  lt : kb < h.next ∧ b2 < h.next ∧ b4 < h.next ∧ b5 < h.next
  nk : kb ∉ ks ∧ b2 ∉ ks ∧ b4 ∉ ks ∧ b5 ∉ ks
  nb : b4 ≠ kb ∧ b4 ≠ mb
  ge : ∀ q ∈ ks, h0.next ≤ q
  g0 : h0.next ≤ kb ∧ h0.next ≤ mb ∧ h0.next ≤ b4
  fr : h.Fr
  un : Un h0 h
theorem WdH.bump {M M' Z : List Int} {A B : Nat → Nat → Int} {kb mb b2 b4 b5 : Nat} {ks : List Nat} {h0 h : Heap} (t : WdH M M' Z A B kb mb b2 b4 b5 ks h0 h) (z : Nat) : WdH M M' Z A B kb mb b2 b4 b5 ks h0 (h.bump z) :=
  ⟨t.mat.bump z, by simp [t.ml], by simp [t.g2], by simp [t.g4], by simp [t.g5], by have := t.lt; simp; omega, t.nk, t.nb, t.ge, t.g0, t.fr.bump z, by have := t.un.1; simp; omega, fun j hj => by simp [t.un.2 j hj]⟩
theorem WdH.put {M M' Z : List Int} {A B B' : Nat → Nat → Int} {kb mb b2 b4 b5 : Nat} {ks : List Nat} {h0 h : Heap} (t : WdH M M' Z A B kb mb b2 b4 b5 ks h0 h) {i k : Nat} (hi : i < M'.length) (hk : ∀ hj : i < ks.length, ks[i] = k) (hB : ∀ a, a ≠ i → B' a = B a) : WdH M M' Z A B' kb mb b2 b4 b5 ks h0 (h.set k (some (.cells 3 (yCs M'.length (B' i))))) := by
  have hl := t.mat.len
  have hkm : k ∈ ks := by rw [← hk (by omega)]; exact List.getElem_mem _
  have hkn := t.mat.lt k hkm
  obtain ⟨k1, k2, k3, k4⟩ := t.nk
  have n1 : kb ≠ k := fun e => k1 (by rw [e]; exact hkm)
  have n2 : b2 ≠ k := fun e => k2 (by rw [e]; exact hkm)
  have n3 : b4 ≠ k := fun e => k3 (by rw [e]; exact hkm)
  have n4 : b5 ≠ k := fun e => k4 (by rw [e]; exact hkm)
  have hge := t.ge k hkm
  refine ⟨t.mat.put (B := B') hi hk (by simp) (fun q hq hk => by simp [hk]) (by simp) hB, by simp [n1, t.ml], by simp [n2, t.g2], by simp [n3, t.g4], by simp [n4, t.g5], by have := t.lt; simp; omega, t.nk, t.nb, t.ge, t.g0, t.fr.set _ hkn.1, by have := t.un.1; simp; omega, fun j hj => ?_⟩
  have : j ≠ k := by omega
  simp [this, t.un.2 j hj]
theorem pos_of {M : List Int} {v : Int} (h : v ∈ M) : posF M v = placeF M v := by unfold posF; rw [if_pos h]
def Wd0 (M M' Z : List Int) (A : Nat → Nat → Int) (kb mb b2 b4 b5 : Nat) (ks : List Nat) (h0 : Heap) (i : Nat) (c : Nat) (s : St) : Prop := ∃ (x : Env 62) (h : Heap) (j : Nat), s = ⟨x.l, h, []⟩ ∧ j + c = M.length ∧ x.v 2 = .ptr b2 0 ∧ x.v 4 = .ptr b4 0 ∧ x.v 5 = .ptr b5 0 ∧ x.v 6 = D.int i ∧ x.v 17 = D.int M.length ∧ x.v 18 = D.int i ∧ x.v 23 = D.int M.length ∧ x.v 24 = D.int j ∧ WdH M M' Z A (wA M M' A i j) kb mb b2 b4 b5 ks h0 h
set_option maxHeartbeats 16000000 in
theorem wd_round0 (M M' Z : List Int) (hM : Rise M) (hM' : Rise M') (hs : ∀ v, v ∈ M → v ∈ M') (hl : M.length ≤ 64) (hl' : M'.length ≤ 66) (A : Nat → Nat → Int) (kb mb b2 b4 b5 : Nat) (ks : List Nat) (h0 : Heap) (i : Nat) (hi : i < M.length) :
    ∀ f, 80 ≤ f → ∀ c s, Wd0 M M' Z A kb mb b2 b4 b5 ks h0 i c s → Res (k59l0.ev ⟨pg, 62, none⟩ (rc pg f) s) (Rnd (Wd0 M M' Z A kb mb b2 b4 b5 ks h0 i) (fun x s => x = .exit 2 ∧ Wd0 M M' Z A kb mb b2 b4 b5 ks h0 i 0 s) c) := by
  rintro f hf c s ⟨x, h, j, rfl, hjc, v2, v4, v5, v6, v17, v18, v23, v24, hH⟩
  by_cases hj : j < M.length
  · have w1 : IntKind.i64.wrap ((j : Int) + 1) = (j : Int) + 1 := wrap_i64 (by omega) (by omega)
    obtain ⟨va, ha⟩ : ∃ a, M[i] = a := ⟨_, rfl⟩
    obtain ⟨vb, hb⟩ : ∃ b, M[j] = b := ⟨_, rfl⟩
    have ma : va ∈ M' := hs _ (by rw [← ha]; exact List.getElem_mem hi)
    have mb' : vb ∈ M' := hs _ (by rw [← hb]; exact List.getElem_mem hj)
    obtain ⟨B, hB⟩ : ∃ B, B = wA M M' A i j := ⟨_, rfl⟩
    have hBn := wA_step hM hM' hs A hi hj
    rw [ha, hb, ← hB] at hBn
    rw [← hB] at hH
    obtain ⟨p, hp⟩ : ∃ p, p = placeF M' va := ⟨_, rfl⟩
    obtain ⟨q, hq⟩ : ∃ q, q = placeF M' vb := ⟨_, rfl⟩
    have hpn : p < M'.length := by rw [hp]; exact (place_at ma).1
    have hqn : q < M'.length := by rw [hq]; exact (place_at mb').1
    rw [← hp, ← hq] at hBn
    have c1 := fun s1 s2 d wt (y : Env 62) b H h1 h2 hg => place_dc (v := va) hM' hl' (n := f) hf s1 s2 d wt y b H h1 h2 (Z := Z) (kb := kb) hg
    have c2 := fun s1 s2 d wt (y : Env 62) b H h1 h2 hg => place_dc (v := vb) hM' hl' (n := f) hf s1 s2 d wt y b H h1 h2 (Z := Z) (kb := kb) hg
    rw [pos_of ma, ← hp] at c1
    rw [pos_of mb', ← hq] at c2
    have g2 := hH.g2
    have g5 := hH.g5
    have ml := hH.ml
    have htop := hH.mat.top
    have hlk := hH.mat.len
    obtain ⟨rp, r1, r2, r3, r4⟩ := hH.mat.at hpn
    obtain ⟨L, hL⟩ : ∃ L, L = ks.map (rowS M'.length) := ⟨_, rfl⟩
    rw [← hL] at htop r1
    have hLl : L.length = M'.length := by rw [hL]; simp [hlk]
    have hrn := (hH.mat.lt rp r2).1
    simp only [intsD, rowsD, sS, rowS] at g2 g5 r1 c1 c2
    have y1 := fun a => yCs_len M.length a
    have y2 := fun a => yCs_len M'.length a
    have q1 := fun A h' => yCs_at (n := M.length) (y := A) hj h'
    have i1 : i + 1 ≤ M.length := hi
    have j1 : j + 1 ≤ M.length := hj
    have p1 : p + 1 ≤ M'.length := hpn
    have q2 : q + 1 ≤ M'.length := hqn
    have hst : (yCs M'.length (B p)).take q ++ D.int (A i j) :: (yCs M'.length (B p)).drop (q + 1) = yCs M'.length (updA B p q (A i j) p) := by
      have : updA B p q (A i j) p = fun b => if b = q then A i j else B p b := by funext b; simp [updA]
      rw [this, ← yCs_set, List.set_eq_take_append_cons_drop, if_pos (by rw [y2]; exact hqn)]
    have o2 : ∀ a : Int, D.one (.val (.int .i64 a)) = true := fun _ => rfl
    simp [k59l0, v2, v5, v6, v23, v24, hi, hj, ha, hb, g2, g5, ml, c1, c2, htop, r1, r4, hLl, hpn, hqn, y1, y2, q1, p1, q2, D.cells, D.one, hst, w1]
    refine ⟨c - 1, by omega, _, _, j + 1, rfl, by omega, by simp [v2], by simp [v4], by simp [v5], by simp [v6], by simp [v17], by simp [v18], by simp [v23], by simp, ?_⟩
    rw [hBn]
    refine WdH.bump (WdH.put (i := p) (B := B) ?_ hpn r3 fun a ha => ?_) _
    · repeat' first | exact hH | apply WdH.bump
    · funext b; simp [updA, ha]
  · simp [k59l0, v23, v24, hj]
    exact ⟨_, _, j, rfl, by omega, by simp [v2], by simp [v4], by simp [v5], by simp [v6], by simp [v17], by simp [v18], by simp [v23], by simp [v24], hH.bump _⟩
def Wd1 (M M' Z : List Int) (A : Nat → Nat → Int) (kb mb b2 b4 b5 : Nat) (ks : List Nat) (h0 : Heap) (c : Nat) (s : St) : Prop := ∃ (x : Env 62) (h : Heap) (i : Nat), s = ⟨x.l, h, []⟩ ∧ i + c = M.length ∧ x.v 2 = .ptr b2 0 ∧ x.v 4 = .ptr b4 0 ∧ x.v 5 = .ptr b5 0 ∧ x.v 17 = D.int M.length ∧ x.v 18 = D.int i ∧ WdH M M' Z A (wA M M' A i 0) kb mb b2 b4 b5 ks h0 h
set_option maxHeartbeats 8000000 in
theorem wd_round1 (M M' Z : List Int) (hM : Rise M) (hM' : Rise M') (hs : ∀ v, v ∈ M → v ∈ M') (hl : M.length ≤ 64) (hl' : M'.length ≤ 66) (A : Nat → Nat → Int) (kb mb b2 b4 b5 : Nat) (ks : List Nat) (h0 : Heap) :
    ∀ f, 200 ≤ f → ∀ c s, Wd1 M M' Z A kb mb b2 b4 b5 ks h0 c s → Res (k59l1.ev ⟨pg, 62, none⟩ (rc pg f) s) (Rnd (Wd1 M M' Z A kb mb b2 b4 b5 ks h0) (fun x s => x = .exit 0 ∧ Wd1 M M' Z A kb mb b2 b4 b5 ks h0 0 s) c) := by
  rintro f hf c s ⟨x, h, i, rfl, hic, v2, v4, v5, v17, v18, hH⟩
  by_cases hi : i < M.length
  · have w1 : IntKind.i64.wrap ((i : Int) + 1) = (i : Int) + 1 := wrap_i64 (by omega) (by omega)
    have g2 := hH.g2
    simp only [intsD] at g2
    simp [k59l1, v2, v17, v18, hi, g2, ev_loop]
    refine Res.after (Res.block (lp_rule 80 (Wd0 M M' Z A kb mb b2 b4 b5 ks h0 i) _ (wd_round0 M M' Z hM hM' hs hl hl' A kb mb b2 b4 b5 ks h0 i hi) M.length f _ (by omega) ⟨_, _, 0, rfl, by omega, by simp [v2], by simp [v4], by simp [v5], by simp, by simp [v17], by simp [v18], by simp, by simp, ?_⟩) (Q := fun x s => x = .normal ∧ Wd0 M M' Z A kb mb b2 b4 b5 ks h0 i 0 s) ?_) ?_
    · repeat' first | exact hH | apply WdH.bump
    · rintro x s ⟨rfl, hr⟩
      simpa using hr
    · rintro x s ⟨rfl, x, h, j, rfl, hj, u2, u4, u5, u6, u17, u18, u23, u24, hH2⟩
      obtain rfl : j = M.length := by omega
      rw [wA_row] at hH2
      simp [u18, w1]
      exact ⟨c - 1, by omega, _, _, i + 1, rfl, by omega, by simp [u2], by simp [u4], by simp [u5], by simp [u17], by simp, by repeat' first | exact hH2 | apply WdH.bump⟩
  · simp [k59l1, v17, v18, hi]
    exact ⟨_, _, i, rfl, by omega, by simp [v2], by simp [v4], by simp [v5], by simp [v17], by simp [v18], hH.bump _⟩
end Go.Proofs.YtlkpikdfbodhoaaDoor
/- A net with further marks, by the program: the answer. -/
namespace Go.Proofs.YtlkpikdfbodhoaaDoor
open Go Go.Em Go.Em.Net
set_option maxRecDepth 100000
theorem ris_fuel {N m : Nat} (h : N ≤ 66) (hm : 99999 ≤ m) : (N + 1) * (3 * N + 201) + 60 ≤ m := by
  exact Nat.le_trans (Nat.add_le_add_right (Nat.mul_le_mul (show N + 1 ≤ 67 by omega) (show 3 * N + 201 ≤ 399 by omega)) 60) (show 67 * 399 + 60 ≤ m by omega)
theorem rs_all (M : List Int) (va vb : Int) : ∀ v, v ∈ M → v ∈ rsL (M ++ [va, vb]) := fun v h => (rs_mem _ v).2 (List.mem_append_left _ h)
set_option maxHeartbeats 8000000 in
theorem wid_sh {M : List Int} (hM : Rise M) (hl : M.length ≤ 64) (A : Nat → Nat → Int) (va vb : Int) (hl' : (rsL (M ++ [va, vb])).length ≤ 66) {h : Heap} (hf : h.Fr) {n : Nat} (hn : 100000 ≤ n) :
    ∃ (w : Nat × Nat × List Nat × List Int) (h' : Heap), (rc pg n).fn 59 [nD M A, intsD [va, vb]] h = some (.ret (.agg [sS (rsL (M ++ [va, vb])) w.1, rowS (rsL (M ++ [va, vb])).length w.2.1]), h') ∧ (Mat (rsL (M ++ [va, vb])).length (wA M (rsL (M ++ [va, vb])) A M.length 0) w.2.1 w.2.2.1 h' ∧ h'.get w.1 = some (.cells 3 ((rsL (M ++ [va, vb]) ++ w.2.2.2).map D.int)) ∧ w.1 < h'.next ∧ w.1 ∉ w.2.2.1 ∧ h.next ≤ w.1 ∧ h.next ≤ w.2.1 ∧ (∀ q ∈ w.2.2.1, h.next ≤ q) ∧ h'.Fr ∧ Un h h') := by
  obtain ⟨m, rfl, e⟩ := fn_body (pg := pg) (f := 59) (args := [nD M A, intsD [va, vb]]) (h := h) (show 0 < n by omega) rfl rfl
  rw [e]
  have hfr : ∀ j, h.raw (h.next + j) = none := fun j => hf _ (by omega)
  have o1 : ∀ a b c d (e : Option Nat), D.one (.slr a b c d e) = true := fun _ _ _ _ _ => rfl
  have o3 : ∀ (z : Bool) (l : List D), D.one (.sl z l) = true := fun _ _ => rfl
  have hz1 : zerosD [.slice none 0 0] 1 2 = [nilS, nilS] := rfl
  have hc1 := ints_canonL M
  obtain ⟨M', hM'⟩ : ∃ M', M' = rsL (M ++ [va, vb]) := ⟨_, rfl⟩
  rw [← hM'] at hl' ⊢
  have hr' : Rise M' := by rw [hM']; exact rs_rise _
  have hs' : ∀ v, v ∈ M → v ∈ M' := by rw [hM']; exact rs_all M va vb
  obtain ⟨H1, hH1⟩ : ∃ H, H = (((((h.bump 62).set (h.next + 2) (some (.cells 40 [intsD M, rowsD M.length A]))).set (h.next + 4) (some (.cells 74 nil2))).bump 62).set (h.next + 73) (some (.cells 31 [intsD M, intsD [va, vb]]))).set (h.next + 73) none := ⟨_, rfl⟩
  have hH1f : H1.Fr := by
    rw [hH1]
    repeat' first | exact hf | apply Heap.Fr.bump | apply Heap.Fr.set
    all_goals (simp <;> omega)
  have hH1n : H1.next = h.next + 124 := by rw [hH1]; simp
  have hH1r : ∀ j, j < h.next → H1.raw j = h.raw j := fun j hj => by
    have e2 : ∀ q, (j = h.next + q) = False := fun q => by simp; omega
    rw [hH1]; simp [e2]
  have g12 : H1.get (h.next + 2) = some (.cells 40 [intsD M, rowsD M.length A]) := by rw [hH1]; simp
  have g14 : H1.get (h.next + 4) = some (.cells 74 nil2) := by rw [hH1]; simp
  obtain ⟨kb, h1, r1, g1, k1, k2, f1, u1, u2⟩ := cat_sh M hl va vb hH1f (n := m) (by omega)
  have c1 := call_sh (pg := pg) (f := 97) rfl r1
  have g1' : h1.get kb = some (.cells 3 ((M ++ [va, vb]).map D.int)) := by simpa using g1
  obtain ⟨N, hN⟩ : ∃ N, N = M.length + 2 := ⟨_, rfl⟩
  have hNl : (M ++ [va, vb]).length = N := by simp [hN]
  have hNf := ris_fuel (N := N) (m := m) (by omega) (by omega)
  obtain ⟨h2, Z, r2, hZ, sd⟩ := risingn_sh g1' k1 f1 hNl (by omega) hNf
  rw [hN] at r2 hZ
  rw [← hM'] at r2 hZ sd
  have c2 := call_sh (pg := pg) (f := 72) rfl r2
  have sg : h2.get kb = some (.cells 3 ((M' ++ Z).map D.int)) := by simpa using sd.g
  have n2 := sd.n
  obtain ⟨mb, ks, h3, r3, m3, b1, b2, f3, u3, u4⟩ := ndS_sh M' kb hl' sd.fr (f := m) (by omega)
  have c3 := call_sh (pg := pg) (f := 96) rfl r3
  simp only [catD, sS, rowS, intsD, rowsD, nil2, List.map_cons, List.map_nil] at c1 c2 c3 hH1
  have r2' : ∀ j, j < h.next + 124 → h2.raw j = H1.raw j := fun j hj => by rw [sd.u j (by omega) (by omega), u2 j (by omega)]
  have r3' : ∀ j, j < h.next + 124 → h3.raw j = H1.raw j := fun j hj => by rw [u4 j (by omega), r2' j hj]
  have g32 : h3.get (h.next + 2) = some (.cells 40 [intsD M, rowsD M.length A]) := by unfold Heap.get at g12 ⊢; rw [r3' _ (by omega)]; exact g12
  have g34 : h3.get (h.next + 4) = some (.cells 74 nil2) := by unfold Heap.get at g14 ⊢; rw [r3' _ (by omega)]; exact g14
  have g3k : h3.get kb = some (.cells 3 ((M' ++ Z).map D.int)) := by unfold Heap.get at sg ⊢; rw [u4 _ (by have := sd.k; omega)]; exact sg
  have hf67 : h3.raw (h.next + 67) = none := by
    rw [r3' _ (by omega), hH1]
    simp [hfr]
  simp only [intsD, rowsD, nil2] at g32 g34
  have w3 : (h.next + 4 = h.next + 67) = False := by simp
  simp [k59, Env.v_ini, nD, intsD, rowsD, hfr, D.cells, o1, o3, Nat.add_assoc, hz1, hc1, chunk, ← hH1, c1, c2, c3, hf67, g32, ev_loop]
  have hkb : h.next + 124 ≤ kb := by omega
  have hmb : h.next + 124 ≤ mb := by omega
  have hkm : kb ≠ mb := by have := sd.k; omega
  have hks : ∀ q ∈ ks, h.next + 124 ≤ q := fun q hq => by have := b2 q hq; omega
  have hkk : kb ∉ ks := fun hq => by have := b2 _ hq; have := sd.k; omega
  have hW : WdH M M' Z A (wA M M' A 0 0) kb mb (h.next + 2) (h.next + 4) (h.next + 67) ks h ((h3.set (h.next + 67) (some (.cells 74 nil2))).set (h.next + 67) (some (.cells 74 [sS M' kb, rowS M'.length mb]))) := by
    rw [wA_zero]
    refine ⟨⟨m3.len, by simp [show mb ≠ h.next + 67 by omega, m3.top], m3.nd, fun q hq => by simpa using m3.lt q hq, fun j hj => ?_, by simpa using m3.mlt⟩, by simp [show kb ≠ h.next + 67 by omega, g3k], by simp [g32, intsD, rowsD], by simp [g34, nil2], by simp, by have := sd.k; simp; omega, ⟨hkk, fun hq => by have := hks _ hq; omega, fun hq => by have := hks _ hq; omega, fun hq => by have := hks _ hq; omega⟩, by omega, fun q hq => by have := hks q hq; omega, by omega, (f3.set _ (by omega)).set _ (by simp; omega), by simp; omega, fun j hj => ?_⟩
    · have := hks _ (List.getElem_mem hj)
      simp [show ks[j] ≠ h.next + 67 by omega, m3.row j hj]
    · simp [show j ≠ h.next + 67 by omega, r3' j (by omega), hH1r j hj]
  suffices hS : ∃ d h', _ = some (Out.ret ((fun w : Nat × Nat × List Nat × List Int => D.agg [sS M' w.1, rowS M'.length w.2.1]) d), h') ∧ (fun (w : Nat × Nat × List Nat × List Int) (h' : Heap) => Mat M'.length (wA M M' A M.length 0) w.2.1 w.2.2.1 h' ∧ h'.get w.1 = some (.cells 3 (M'.map D.int ++ w.2.2.2.map D.int)) ∧ w.1 < h'.next ∧ ¬ w.1 ∈ w.2.2.1 ∧ h.next ≤ w.1 ∧ h.next ≤ w.2.1 ∧ (∀ q, q ∈ w.2.2.1 → h.next ≤ q) ∧ h'.Fr ∧ Un h h') d h' by
    obtain ⟨⟨a1, a2, a3, a4⟩, h', e1, c⟩ := hS
    exact ⟨a1, a2, a3, a4, h', e1, c⟩
  refine Res.tailG (F := fun w : Nat × Nat × List Nat × List Int => D.agg [sS M' w.1, rowS M'.length w.2.1]) (C := fun (w : Nat × Nat × List Nat × List Int) (h' : Heap) => Mat M'.length (wA M M' A M.length 0) w.2.1 w.2.2.1 h' ∧ h'.get w.1 = some (.cells 3 (M'.map D.int ++ w.2.2.2.map D.int)) ∧ w.1 < h'.next ∧ ¬ w.1 ∈ w.2.2.1 ∧ h.next ≤ w.1 ∧ h.next ≤ w.2.1 ∧ (∀ q, q ∈ w.2.2.1 → h.next ≤ q) ∧ h'.Fr ∧ Un h h')
    (lp_rule 200 (Wd1 M M' Z A kb mb (h.next + 2) (h.next + 4) (h.next + 67) ks h) _ (wd_round1 M M' Z hM hr' hs' hl hl' A kb mb (h.next + 2) (h.next + 4) (h.next + 67) ks h) M.length m _ (by omega) ⟨_, _, 0, rfl, by omega, by simp, by simp, by simp, by simp, by simp, ?_⟩) ?_
  · have hW' := hW.bump 62
    simp only [sS, rowS, nil2] at hW'
    exact hW'
  · rintro x s ⟨rfl, x, h4, i, rfl, hi, u2', u4', u5', u17, u18, hH⟩
    obtain rfl : i = M.length := by omega
    have g5 := hH.g5
    have g4 := hH.g4
    simp only [sS, rowS] at g5
    simp only [nil2] at g4
    have nb := hH.nb
    simp [u4', u5', g5, g4, D.cells, D.one]
    obtain ⟨k1', k2', k3', k4'⟩ := hH.nk
    have hlt := hH.lt
    have hm4 := hH.mat
    refine ⟨kb, mb, ks, Z, _, ⟨⟨rfl, rfl⟩, rfl⟩, ⟨hm4.len, by simp [show mb ≠ h.next + 4 by omega, hm4.top], hm4.nd, fun q hq => by have := hm4.lt q hq; simp; omega, fun j hj => ?_, by have := hm4.mlt; simp; omega⟩, by simp [show kb ≠ h.next + 4 by omega, hH.ml], by simp; omega, k1', hH.g0.1, hH.g0.2.1, hH.ge, (hH.fr.bump _).set _ (by simp; omega), by have := hH.un.1; simp; omega, fun j hj => by simp [show j ≠ h.next + 4 by omega, hH.un.2 j hj]⟩
    have : ks[j] ≠ h.next + 4 := fun e => k3' (by rw [← e]; exact List.getElem_mem hj)
    simp [this, hm4.row j hj]
end Go.Proofs.YtlkpikdfbodhoaaDoor
/- A net grows by a claim, by the program. -/
namespace Go.Proofs.YtlkpikdfbodhoaaDoor
open Go Go.Em Go.Em.Net
set_option maxRecDepth 100000
def k19v : Cd :=
  .seq (.region [⟨none, some 76, .inl (.ld true 2 (.s 8))⟩,
 ⟨none, some 77, .inl (.mv (.s 9))⟩,
 ⟨none, some 78, .inl (.mv (.s 10))⟩,
 ⟨none, some 79, .inl (.fa (.s 3) 3)⟩,
 ⟨none, some 80, .inl (.ld false 1 (.s 79))⟩,
 ⟨none, some 81, .inr (.fn 61 [(.s 76), (.s 77), (.s 78), (.s 80)])⟩])
 (.seq (.region [⟨none, some 82, .inl (.ld true 2 (.s 8))⟩,
 ⟨none, some 83, .inl (.mv (.s 10))⟩,
 ⟨none, some 84, .inl (.mv (.s 9))⟩,
 ⟨none, some 85, .inl (.fa (.s 3) 2)⟩,
 ⟨none, some 86, .inl (.ld false 1 (.s 85))⟩,
 ⟨none, some 87, .inl (.neg (.s 86))⟩,
 ⟨none, some 88, .inr (.fn 61 [(.s 82), (.s 83), (.s 84), (.s 87)])⟩])
 (.seq (.region [⟨none, some 89, .inl (.ld true 2 (.s 8))⟩,
 ⟨none, some 90, .inl (.mv (.s 9))⟩,
 ⟨none, some 91, .inr (.fn 62 [(.s 89), (.s 90)])⟩])
 (.seq (.region [⟨none, some 92, .inl (.ld true 2 (.s 8))⟩,
 ⟨none, some 93, .inl (.mv (.s 10))⟩,
 ⟨none, some 94, .inr (.fn 62 [(.s 92), (.s 93)])⟩])
 (.seq (.seq (.region [⟨none, some 95, .inl (.ld true 2 (.s 8))⟩,
 ⟨none, some 96, .inr (.fn 63 [(.s 95)])⟩,
 ⟨none, some 97, .inl (.not (.s 96))⟩])
 (.cond (.s 97) (.seq (.region [⟨none, some 98, .inl (.bld [(.slice none 0 0), (.slice none 0 0)] [])⟩,
 ⟨none, none, .inl (.st 2 (.s 4) (.s 98))⟩,
 ⟨none, some 5, .inl (.mv (.c (.int .i64 2)))⟩])
 (.ret))
 (.skip)))
 (.seq (.region [⟨none, some 99, .inl (.fa (.s 8) 0)⟩,
 ⟨none, some 100, .inl (.ld true 2 (.s 99))⟩,
 ⟨none, none, .inl (.st 2 (.s 4) (.s 100))⟩,
 ⟨none, some 5, .inl (.mv (.c (.int .i64 0)))⟩])
 (.ret))))))
def k19u : Cd :=
  .seq (.seq (.draw [⟨⟨none, some 48, .inl (.fa (.s 8) 0)⟩, some [], [], 0, false⟩,
 ⟨⟨none, some 49, .inl (.fa (.s 48) 1)⟩, some [], [], 1, false⟩,
 ⟨⟨none, some 50, .inl (.ld false 1 (.s 49))⟩, some [], [], 3, false⟩,
 ⟨⟨none, some 51, .inl (.mv (.s 9))⟩, some [], [], 0, false⟩,
 ⟨⟨none, some 52, .inl (.ias 1 (.s 50) (.s 51))⟩, some [], [], 15, false⟩,
 ⟨⟨none, some 53, .inl (.ld false 1 (.s 52))⟩, some [], [], 31, false⟩,
 ⟨⟨none, some 54, .inl (.mv (.s 10))⟩, some [], [], 0, false⟩,
 ⟨⟨none, some 55, .inl (.ias 1 (.s 53) (.s 54))⟩, some [], [], 127, false⟩,
 ⟨⟨none, some 56, .inl (.ld false 1 (.s 55))⟩, some [], [], 255, false⟩,
 ⟨⟨none, some 57, .inl (.fa (.s 3) 2)⟩, some [], [], 0, false⟩,
 ⟨⟨none, some 58, .inl (.ld false 1 (.s 57))⟩, some [], [], 512, false⟩,
 ⟨⟨none, some 59, .inl (.bin .lss (.s 56) (.s 58))⟩, some [], [], 2047, false⟩,
 ⟨⟨none, some 60, .inl (.mv (.s 59))⟩, some [], [], 4095, false⟩,
 ⟨⟨some (60, false), some 61, .inl (.fa (.s 8) 0)⟩, some [], [], 8191, false⟩,
 ⟨⟨some (60, false), some 62, .inl (.fa (.s 61) 1)⟩, some [], [], 16383, false⟩,
 ⟨⟨some (60, false), some 63, .inl (.ld false 1 (.s 62))⟩, some [], [], 32767, false⟩,
 ⟨⟨some (60, false), some 64, .inl (.mv (.s 10))⟩, some [], [], 8191, false⟩,
 ⟨⟨some (60, false), some 65, .inl (.ias 1 (.s 63) (.s 64))⟩, some [], [], 131071, false⟩,
 ⟨⟨some (60, false), some 66, .inl (.ld false 1 (.s 65))⟩, some [], [], 262143, false⟩,
 ⟨⟨some (60, false), some 67, .inl (.mv (.s 9))⟩, some [], [], 8191, false⟩,
 ⟨⟨some (60, false), some 68, .inl (.ias 1 (.s 66) (.s 67))⟩, some [], [], 1048575, false⟩,
 ⟨⟨some (60, false), some 69, .inl (.ld false 1 (.s 68))⟩, some [], [], 2097151, false⟩,
 ⟨⟨some (60, false), some 70, .inl (.fa (.s 3) 3)⟩, some [], [], 8191, false⟩,
 ⟨⟨some (60, false), some 71, .inl (.ld false 1 (.s 70))⟩, some [], [], 4202495, false⟩,
 ⟨⟨some (60, false), some 72, .inl (.neg (.s 71))⟩, some [], [], 12591103, false⟩,
 ⟨⟨some (60, false), some 73, .inl (.bin .lss (.s 69) (.s 72))⟩, some [], [], 33554431, false⟩,
 ⟨⟨none, some 74, .inl (.pick (.s 60) (.c (.bool true)) (.s 73))⟩, some [], [], 67108863, false⟩])
 (.cond (.s 74) (.seq (.region [⟨none, some 75, .inl (.bld [(.slice none 0 0), (.slice none 0 0)] [])⟩,
 ⟨none, none, .inl (.st 2 (.s 4) (.s 75))⟩,
 ⟨none, some 5, .inl (.mv (.c (.int .i64 25)))⟩])
 (.ret))
 (.skip)))
  k19v
def k19t : Cd :=
  .seq (.draw [⟨⟨none, some 36, .inl (.fa (.s 8) 0)⟩, some [], [], 0, false⟩,
 ⟨⟨none, some 37, .inl (.fa (.s 36) 0)⟩, some [], [], 1, false⟩,
 ⟨⟨none, some 38, .inl (.ld false 1 (.s 37))⟩, some [], [], 3, false⟩,
 ⟨⟨none, some 39, .inl (.fa (.s 3) 0)⟩, some [], [], 0, false⟩,
 ⟨⟨none, some 40, .inl (.ld false 1 (.s 39))⟩, some [], [], 8, false⟩,
 ⟨⟨none, some 41, .inr (.fn 60 [(.s 38), (.s 40)])⟩, some [], [], 31, false⟩,
 ⟨⟨none, some 42, .inl (.fa (.s 8) 0)⟩, some [], [], 0, false⟩,
 ⟨⟨none, some 43, .inl (.fa (.s 42) 0)⟩, some [], [], 64, false⟩,
 ⟨⟨none, some 44, .inl (.ld false 1 (.s 43))⟩, some [], [], 192, false⟩,
 ⟨⟨none, some 45, .inl (.fa (.s 3) 1)⟩, some [], [], 0, false⟩,
 ⟨⟨none, some 46, .inl (.ld false 1 (.s 45))⟩, some [], [], 512, false⟩,
 ⟨⟨none, some 47, .inr (.fn 60 [(.s 44), (.s 46)])⟩, some [], [], 2047, false⟩,
 ⟨⟨none, some 9, .inl (.mv (.s 41))⟩, some [], [], 4095, false⟩,
 ⟨⟨none, some 10, .inl (.mv (.s 47))⟩, some [], [], 8191, false⟩])
  k19u
theorem k19_eq : k19 = .seq (.region [⟨none, some 2, .inl (.box 40 2 (.s 0))⟩,
 ⟨none, some 3, .inl (.box 42 5 (.s 1))⟩,
 ⟨none, some 4, .inl (.alloc 40 [(.slice none 0 0), (.slice none 0 0)])⟩,
 ⟨none, some 5, .inl (.mv (.c (.int .i64 0)))⟩])
 (.seq (.seq (.region [⟨none, some 11, .inl (.ld true 2 (.s 2))⟩,
 ⟨none, some 12, .inr (.fn 21 [(.s 11)])⟩,
 ⟨none, some 6, .inl (.mv (.s 12))⟩])
 (.seq (.region [⟨none, some 13, .inl (.mv (.s 6))⟩,
 ⟨none, some 14, .inl (.bin .neq (.s 13) (.c (.int .i64 0)))⟩])
 (.cond (.s 14) (.seq (.region [⟨none, some 15, .inl (.bld [(.slice none 0 0), (.slice none 0 0)] [])⟩,
 ⟨none, some 16, .inl (.mv (.s 6))⟩,
 ⟨none, none, .inl (.st 2 (.s 4) (.s 15))⟩,
 ⟨none, some 5, .inl (.mv (.s 16))⟩])
 (.ret))
 (.skip))))
 (.seq (.seq (.region [⟨none, some 17, .inl (.ld true 5 (.s 3))⟩,
 ⟨none, some 18, .inr (.fn 27 [(.s 17)])⟩,
 ⟨none, some 7, .inl (.mv (.s 18))⟩])
 (.seq (.region [⟨none, some 19, .inl (.mv (.s 7))⟩,
 ⟨none, some 20, .inl (.bin .neq (.s 19) (.c (.int .i64 0)))⟩])
 (.cond (.s 20) (.seq (.region [⟨none, some 21, .inl (.bld [(.slice none 0 0), (.slice none 0 0)] [])⟩,
 ⟨none, some 22, .inl (.mv (.s 7))⟩,
 ⟨none, none, .inl (.st 2 (.s 4) (.s 21))⟩,
 ⟨none, some 5, .inl (.mv (.s 22))⟩])
 (.ret))
 (.skip))))
 (.seq (.region [⟨none, some 23, .inl (.ld true 2 (.s 2))⟩,
 ⟨none, some 24, .inl (.fa (.s 3) 0)⟩,
 ⟨none, some 25, .inl (.ld false 1 (.s 24))⟩,
 ⟨none, some 26, .inl (.fa (.s 3) 1)⟩,
 ⟨none, some 27, .inl (.ld false 1 (.s 26))⟩,
 ⟨none, some 28, .inl (.bst 3 1 2 [(.int .i64 0)] [(0, (.s 25)), (1, (.s 27))])⟩,
 ⟨none, some 29, .inr (.fn 59 [(.s 23), (.s 28)])⟩,
 ⟨none, some 8, .inl (.alloc 74 [(.slice none 0 0), (.slice none 0 0)])⟩,
 ⟨none, none, .inl (.st 2 (.s 8) (.s 29))⟩])
 (.seq (.seq (.region [⟨none, some 30, .inl (.fa (.s 8) 0)⟩,
 ⟨none, some 31, .inl (.fa (.s 30) 0)⟩,
 ⟨none, some 32, .inl (.ld false 1 (.s 31))⟩,
 ⟨none, some 33, .inl (.len (.s 32))⟩,
 ⟨none, some 34, .inl (.bin .gtr (.s 33) (.c (.int .i64 64)))⟩])
 (.cond (.s 34) (.seq (.region [⟨none, some 35, .inl (.bld [(.slice none 0 0), (.slice none 0 0)] [])⟩,
 ⟨none, none, .inl (.st 2 (.s 4) (.s 35))⟩,
 ⟨none, some 5, .inl (.mv (.c (.int .i64 2)))⟩])
 (.ret))
 (.skip)))
  k19t)))) := rfl

structure GrH (M' Z : List Int) (B : Nat → Nat → Int) (c : Clm) (kb mb : Nat) (ks : List Nat) (h : Heap) : Prop where
  mat : Mat M'.length B mb ks h
  ml : h.get kb = some (.cells 3 ((M' ++ Z).map D.int))
  g3 : h.get 3 = some (.cells 42 (clC c))
  g4 : h.get 4 = some (.cells 40 nil2)
  g8 : h.get 513 = some (.cells 74 [sS M' kb, rowS M'.length mb])
  lt : kb < h.next ∧ 513 < h.next
  nk : kb ∉ ks ∧ 3 ∉ ks ∧ 4 ∉ ks ∧ 513 ∉ ks
  n4 : kb ≠ 4 ∧ mb ≠ 4
  fr : h.Fr
theorem GrH.bump {M' Z : List Int} {B : Nat → Nat → Int} {c : Clm} {kb mb : Nat} {ks : List Nat} {h : Heap} (t : GrH M' Z B c kb mb ks h) (z : Nat) : GrH M' Z B c kb mb ks (h.bump z) :=
  ⟨t.mat.bump z, by simp [t.ml], by simp [t.g3], by simp [t.g4], by simp [t.g8], by have := t.lt; simp; omega, t.nk, t.n4, t.fr.bump z⟩
theorem GrH.only {M' Z : List Int} {B B' : Nat → Nat → Int} {c : Clm} {kb mb : Nat} {ks : List Nat} {h h' : Heap} (t : GrH M' Z B c kb mb ks h) (o : Only ks h h') (m : Mat M'.length B' mb ks h') (f : h'.Fr) : GrH M' Z B' c kb mb ks h' :=
  have l := t.lt
  have k := t.nk
  ⟨m, by rw [o.get l.1 k.1]; exact t.ml, by rw [o.get (by omega) k.2.1]; exact t.g3, by rw [o.get (by omega) k.2.2.1]; exact t.g4, by rw [o.get l.2 k.2.2.2]; exact t.g8, by have := o.1; omega, k, t.n4, f⟩
theorem low_encS {W : Mx} (h : Bt W) (a b : Nat) {e : Int} (h1 : -100000 ≤ e) (h2 : e ≤ 100000) : updA (encM W) a b (min (encM W a b) e) = encM (lowM W ⟨0, false, a, b, e⟩) ∧ Bt (lowM W ⟨0, false, a, b, e⟩) := low_enc h (m := ⟨0, false, a, b, e⟩) h1 h2
theorem lowM_O (W : Mx) {a b : Nat} (hne : a ≠ b) (e f : Int) : Lw W a b e f = lowM (lowM W ⟨0, false, a, b, e⟩) ⟨0, false, b, a, f⟩ := Lw_low W hne e f
end Go.Proofs.YtlkpikdfbodhoaaDoor
