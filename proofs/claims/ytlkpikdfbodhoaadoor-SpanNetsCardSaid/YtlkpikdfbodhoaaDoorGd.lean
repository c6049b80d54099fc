/- A net without bounds, by the program, whose marks are a list in the heap. -/
import Derived.Test.YtlkpikdfbodhoaaDoorMul
import Derived.Test.YtlkpikdfbodhoaaDoorGc
namespace Go.Proofs.YtlkpikdfbodhoaaDoor
open Go Go.Em Go.Em.Net
set_option maxRecDepth 100000
def sS (M : List Int) (kb : Nat) : D := .slr kb 0 M.length 1 none
def NdS (h0 : Heap) (M : List Int) (kb mb rb : Nat) (k : Nat) (s : St) : Prop := ∃ (x : Env 31) (h : Heap) (i : Nat) (ks : List Nat), s = ⟨x.l, h, []⟩ ∧ i + k = M.length ∧ x.v 0 = sS M kb ∧ x.v 2 = .ptr rb 0 ∧ x.v 3 = rowS M.length mb ∧ x.v 9 = D.int M.length ∧ x.v 10 = D.int i ∧ ks.length = i ∧ h.get mb = some (.cells 31 (ks.map (rowS M.length) ++ List.replicate (M.length - i) nilS)) ∧ ks.Nodup ∧ (∀ q ∈ ks, h0.next ≤ q ∧ q < h.next ∧ q ≠ mb ∧ q ≠ rb) ∧ (∀ j, ∀ hj : j < ks.length, h.get ks[j] = some (.cells 3 (yCs M.length (fun v => if v = j then 0 else 1000000000)))) ∧ h.get rb = some (.cells 74 nil2) ∧ mb < h.next ∧ rb < h.next ∧ mb ≠ rb ∧ h0.next ≤ mb ∧ h0.next ≤ rb ∧ h.Fr ∧ Un h0 h
set_option maxHeartbeats 8000000 in
theorem ndS_round (h0 : Heap) (M : List Int) (kb : Nat) (hml : M.length ≤ 66) (mb rb : Nat) : ∀ n, 80 ≤ n → ∀ k s, NdS h0 M kb mb rb k s → Res (k96l0.ev ⟨pg, 31, none⟩ (rc pg n) s) (Rnd (NdS h0 M kb mb rb) (fun x s => x = .exit 0 ∧ NdS h0 M kb mb rb 0 s) k) := by
  rintro n hn k s ⟨x, h, i, ks, rfl, hik, v0, v2, v3, v9, v10, hks, hm, hnd, hkq, hrow, hr, mn, rn, d1, b1, b2, hf, u1, u2⟩
  simp only [sS] at v0
  simp only [rowS] at v3
  by_cases hi : i < M.length
  · have w1 : IntKind.i64.wrap ((i : Int) + 1) = (i : Int) + 1 := wrap_i64 (by omega) (by omega)
    have s82 : pg.sh 115 = true := rfl
    have hfr : ∀ j, h.raw (h.next + j) = none := fun j => hf _ (by omega)
    have hz1 : zerosD [.int .i64 0] 1 1 = [D.int 0] := rfl
    obtain ⟨H, hH⟩ : ∃ H, H = ((((h.bump 31).bump 31).bump 31).set (h.next + 77) (some (.cells 3 [D.int 1000000000]))).set (h.next + 77) none := ⟨_, rfl⟩
    have hHf : H.Fr := by
      rw [hH]
      repeat' first | exact hf | apply Heap.Fr.bump | apply Heap.Fr.set
      all_goals first | omega | (simp <;> omega)
    have hHn : H.next = h.next + 93 := by rw [hH]; simp
    have hHr : ∀ j, j < h.next → H.raw j = h.raw j := fun j hj => by rw [hH]; simp [show j ≠ h.next + 77 by omega]
    obtain ⟨b, h1, e1, g1, q1, f1, q0, t1, t2⟩ := rep_sh6 1000000000 hml (by omega) hHf (f := n) (by omega)
    have c82 := call_sh (pg := pg) s82 e1
    have h1r : ∀ j, j < h.next → h1.raw j = h.raw j := fun j hj => by rw [t2 j (by omega), hHr j hj]
    have h1g : ∀ j, j < h.next → h1.get j = h.get j := fun j hj => by unfold Heap.get; rw [h1r j hj]
    obtain ⟨L, hL⟩ : ∃ L, L = ks.map (rowS M.length) ++ List.replicate (M.length - i) nilS := ⟨_, rfl⟩
    rw [← hL] at hm
    have hLl : L.length = M.length := by rw [hL]; simp; omega
    obtain ⟨L2, hL2⟩ : ∃ L2, L2 = (ks ++ [b]).map (rowS M.length) ++ List.replicate (M.length - (i + 1)) nilS := ⟨_, rfl⟩
    have hLs : L.take i ++ D.slr b 0 M.length 1 (some M.length) :: L.drop (i + 1) = L2 := by
      rw [hL, hL2, show M.length - i = (M.length - (i + 1)) + 1 by omega, List.replicate_succ, List.take_left' (by simp [hks]), List.map_append, List.append_assoc]
      rw [show i + 1 = (ks.map (rowS M.length)).length + 1 by simp [hks], List.drop_append]
      simp [rowS]
    have hL2l : L2.length = M.length := by rw [hL2]; simp; omega
    have hL2g : ∀ h' : i < L2.length, L2[i]'h' = D.slr b 0 M.length 1 (some M.length) := fun h' => by
      have : L2[i]? = some (D.slr b 0 M.length 1 (some M.length)) := by
        rw [hL2, List.getElem?_append_left (by simp; omega), List.getElem?_map, List.getElem?_append_right (by omega)]
        simp [hks, rowS]
      rw [List.getElem?_eq_getElem h'] at this
      exact Option.some.inj this
    obtain ⟨R, hR⟩ : ∃ R, R = (List.replicate M.length (1000000000 : Int)).map D.int := ⟨_, rfl⟩
    rw [← hR] at g1
    have hRl : R.length = M.length := by rw [hR]; simp
    have hRs : R.take i ++ D.int 0 :: R.drop (i + 1) = yCs M.length (fun v => if v = i then 0 else 1000000000) := by
      have e0 : R = yCs M.length (fun _ => 1000000000) := by
        rw [hR]; unfold yCs
        rw [List.map_replicate]
        symm
        refine List.eq_replicate_iff.2 ⟨by simp, fun d hd => ?_⟩
        obtain ⟨_, _, rfl⟩ := List.mem_map.1 hd
        rfl
      rw [e0, ← yCs_set, List.set_eq_take_append_cons_drop, if_pos (by rw [yCs_len]; exact hi)]
    have i1 : i + 1 ≤ M.length := hi
    have n1 : (mb = b) = False := by simp; omega
    have n2 : (b = mb) = False := by simp; omega
    have hm1 := h1g mb mn
    rw [hm] at hm1
    simp [k96l0, v0, v3, v9, v10, hi, hz1, hfr, D.cells, D.one, Nat.add_assoc, chunk, ← hH, c82, hm1, hLl, i1, hLs, hL2l, hL2g, n2, g1, hRl, hRs, w1]
    have bk : ∀ q ∈ ks, q ≠ b := fun q hq e => by have := hkq q hq; omega
    refine ⟨k - 1, by omega, _, _, i + 1, ks ++ [b], rfl, by omega, by simp [v0, sS], by simp [v2], by simp [v3, rowS], by simp [v9], by simp, by simp [hks], by simp [n1, hL2], ?_, fun q hq => ?_, fun j hj => ?_, ?_, by simp; omega, by simp; omega, d1, b1, b2, ?_, by simp; omega, fun j hj => ?_⟩
    · rw [List.nodup_append]
      exact ⟨hnd, by simp, fun a ha c hc => by simp at hc; subst hc; exact bk a ha⟩
    · rcases List.mem_append.1 hq with hq | hq
      · have := hkq q hq
        simp; omega
      · simp at hq
        subst hq
        simp; omega
    · by_cases hjk : j < ks.length
      · have hq := hkq _ (List.getElem_mem hjk)
        have hb' := bk _ (List.getElem_mem hjk)
        rw [List.getElem_append_left hjk]
        simp [hb', hq.2.2.1, h1g _ hq.2.1, hrow j hjk]
      · have hje : j = ks.length := by simp at hj; omega
        subst hje
        simp [hks]
    · simp [show rb ≠ b by omega, Ne.symm d1, h1g rb rn, hr]
    · repeat' first | exact f1 | apply Heap.Fr.bump | apply Heap.Fr.set
      all_goals first | omega | (simp <;> omega)
    · have := u2 j hj
      simp [show j ≠ b by omega, show j ≠ mb by omega, h1r j (by omega), this]
  · simp [k96l0, v9, v10, hi]
    refine ⟨_, _, i, ks, rfl, by omega, by simp [v0, sS], by simp [v2], by simp [v3, rowS], by simp [v9], by simp [v10], hks, by simp [hm], hnd, fun q hq => ?_, fun j hj => by simpa using hrow j hj, by simp [hr], by simp; omega, by simp; omega, d1, b1, b2, hf.bump _, by simp; omega, fun q hq => by simpa using u2 q hq⟩
    have := hkq q hq
    simp; omega
set_option maxHeartbeats 8000000 in
theorem ndS_sh (M : List Int) (kb : Nat) (hml : M.length ≤ 66) {h : Heap} (hf : h.Fr) {f : Nat} (hfl : 200 ≤ f) : ∃ mb ks h', (rc pg f).fn 96 [sS M kb] h = some (.ret (.agg [sS M kb, rowS M.length mb]), h') ∧ Mat M.length far0 mb ks h' ∧ h.next ≤ mb ∧ (∀ q ∈ ks, h.next ≤ q) ∧ h'.Fr ∧ Un h h' := by
  obtain ⟨m, rfl, e⟩ := fn_body (pg := pg) (f := 96) (args := [sS M kb]) (h := h) (show 0 < f by omega) rfl rfl
  rw [e]
  have hfr : ∀ j, h.raw (h.next + j) = none := fun j => hf _ (by omega)
  have hroom : (24 : Int) * M.length ≤ (room : Int) := by unfold room; omega
  have hz : zerosD [.slice none 0 0] 1 M.length = List.replicate M.length nilS := by
    unfold zerosD
    refine List.eq_replicate_iff.2 ⟨by simp, fun b hb => ?_⟩
    obtain ⟨i, _, rfl⟩ := List.mem_map.1 hb
    simp [Nat.mod_one, nilS]
  simp [k96, Env.v_ini, sS, hfr, hroom, hz, Nat.add_assoc, ev_loop]
  suffices hS : ∃ d h', _ = some (Out.ret ((fun p : Nat × List Nat => D.agg [D.slr kb 0 M.length 1 none, rowS M.length p.1]) d), h') ∧ (fun (p : Nat × List Nat) (h' : Heap) => Mat M.length far0 p.1 p.2 h' ∧ h.next ≤ p.1 ∧ (∀ q ∈ p.2, h.next ≤ q) ∧ h'.Fr ∧ Un h h') d h' by
    obtain ⟨⟨mb, ks⟩, h', e1, c⟩ := hS
    exact ⟨mb, ks, h', e1, c⟩
  refine Res.tailG (F := fun p : Nat × List Nat => D.agg [D.slr kb 0 M.length 1 none, rowS M.length p.1]) (C := fun (p : Nat × List Nat) (h' : Heap) => Mat M.length far0 p.1 p.2 h' ∧ h.next ≤ p.1 ∧ (∀ q ∈ p.2, h.next ≤ q) ∧ h'.Fr ∧ Un h h')
    (lp_rule 80 (NdS h M kb (h.next + 38) (h.next + 2)) _ (ndS_round h M kb hml (h.next + 38) (h.next + 2)) M.length m _ (by omega) ⟨_, _, 0, [], rfl, by omega, by simp [Env.v_ini, sS], by simp, by simp [rowS], by simp, by simp, rfl, by simp, List.nodup_nil, fun q hq => absurd hq List.not_mem_nil, fun j hj => absurd hj (by simp), by simp [nil2], by simp <;> omega, by simp <;> omega, by omega, by omega, by omega, ?_, by simp; omega, fun q hq => by simp [show q ≠ h.next + 2 by omega, show q ≠ h.next + 38 by omega]⟩) ?_
  · repeat' first | exact hf | apply Heap.Fr.bump | apply Heap.Fr.set
    all_goals first | omega | (simp <;> omega)
  · rintro x s ⟨rfl, x, h', i, ks, rfl, hi, v0, v2, v3, v9, v10, hks, hm, hnd, hkq, hrow, hr, mn, rn, d1, b1, b2, hf', u1, u2⟩
    have hil : i = M.length := by omega
    subst hil
    rw [Nat.sub_self, List.replicate_zero, List.append_nil] at hm
    simp only [sS] at v0
    simp only [rowS] at v3
    have n1 : (h.next + 38 = h.next + 2) = False := by simp
    simp [v0, v2, v3, hr, nil2, D.cells, D.one]
    refine ⟨h.next + 38, ks, _, ⟨rfl, rfl⟩, ⟨by omega, by simp [hm], hnd, fun q hq => ?_, fun j hj => ?_, by simp; omega⟩, b1, fun q hq => (hkq q hq).1, ?_, by simp; omega, fun q hq => ?_⟩
    · have := hkq q hq
      simp; omega
    · have hq := hkq _ (List.getElem_mem hj)
      simp [hq.2.2.2, hrow j hj]
      rfl
    · exact (hf'.bump _).set _ (by simp; omega)
    · have := u2 q hq
      simp [show q ≠ h.next + 2 by omega, this]
end Go.Proofs.YtlkpikdfbodhoaaDoor
/- The numbers of a net are lowered over one mark, by the program; the marks are a list in the heap. -/
namespace Go.Proofs.YtlkpikdfbodhoaaDoor
open Go Go.Em Go.Em.Net
set_option maxRecDepth 100000
structure ThsH (M : List Int) (kb : Nat) (n : Nat) (B : Nat → Nat → Int) (mb bx : Nat) (ks : List Nat) (h0 h : Heap) : Prop where
  mat : Mat n B mb ks h
  only : Only ks h0 h
  box : h.get bx = some (.cells 74 [sS M kb, rowS n mb])
  bn : bx < h.next
  bm : bx ≠ mb
  bk : bx ∉ ks
  fr : h.Fr
theorem ThsH.bump {M : List Int} {kb : Nat} {n : Nat} {B : Nat → Nat → Int} {mb bx : Nat} {ks : List Nat} {h0 h : Heap} (t : ThsH M kb n B mb bx ks h0 h) (z : Nat) : ThsH M kb n B mb bx ks h0 (h.bump z) :=
  ⟨t.mat.bump z, t.only.bump z, by simp [t.box], by have := t.bn; simp; omega, t.bm, t.bk, t.fr.bump z⟩
theorem ThsH.put {M : List Int} {kb : Nat} {n : Nat} {A B : Nat → Nat → Int} {mb bx : Nat} {ks : List Nat} {h0 h : Heap} (t : ThsH M kb n A mb bx ks h0 h) {i k : Nat} (hi : i < n) (hk : ∀ hj : i < ks.length, ks[i] = k) (hB : ∀ a, a ≠ i → B a = A a) : ThsH M kb n B mb bx ks h0 (h.set k (some (.cells 3 (yCs n (B i))))) := by
  have hl := t.mat.len
  have hkm : k ∈ ks := by rw [← hk (by omega)]; exact List.getElem_mem _
  have hkn := t.mat.lt k hkm
  refine ⟨t.mat.put (B := B) hi hk (by simp) (fun q hq hk => by simp [hk]) (by simp) hB, ⟨by have := t.only.1; simp; omega, fun q h1 h2 => ?_⟩, ?_, by have := t.bn; simp; omega, t.bm, t.bk, t.fr.set _ hkn.1⟩
  · have : q ≠ k := fun e => h2 (by rw [e]; exact hkm)
    simp [this, t.only.2 q h1 h2]
  · have : bx ≠ k := fun e => t.bk (by rw [e]; exact hkm)
    simp [this, t.box]
def T0S (M : List Int) (kb : Nat) (n k i : Nat) (A : Nat → Nat → Int) (mb bx rk ri : Nat) (ks : List Nat) (h0 : Heap) (c : Nat) (s : St) : Prop := ∃ (x : Env 58) (h : Heap) (j : Nat), s = ⟨x.l, h, []⟩ ∧ j + c = n ∧ ThrK M n k mb bx rk x i ∧ x.v 6 = rowS n ri ∧ x.v 30 = D.int n ∧ x.v 31 = D.int j ∧ ThsH M kb n (rowI k i A j) mb bx ks h0 h
set_option maxHeartbeats 8000000 in
theorem ths_round (M : List Int) (kb : Nat) (n k i : Nat) (hk : k < n) (hi : i < n) (hn : n ≤ 64) (A : Nat → Nat → Int) (mb bx rk ri : Nat) (ks : List Nat) (h0 : Heap) (hrk : ∀ hj : k < ks.length, ks[k] = rk) (hri : ∀ hj : i < ks.length, ks[i] = ri) (hb : ∀ J, J ≤ n → ∀ a b, -1000000000000 ≤ rowI k i A J a b ∧ rowI k i A J a b ≤ 1000000000000) :
    ∀ f, 0 ≤ f → ∀ c s, T0S M kb n k i A mb bx rk ri ks h0 c s → Res (k62l0.ev ⟨pg, 58, none⟩ (rc pg f) s) (Rnd (T0S M kb n k i A mb bx rk ri ks h0) (fun x s => x = .exit 2 ∧ T0S M kb n k i A mb bx rk ri ks h0 0 s) c) := by
  rintro f hf c s ⟨x, h, j, rfl, hjc, ⟨v1, v2, v4, v16, v17, v18⟩, v6, v30, v31, hH⟩
  obtain ⟨hm, ho, hbx, bn, bm, bk, hfr'⟩ := hH
  have hH : ThsH M kb n (rowI k i A j) mb bx ks h0 h := ⟨hm, ho, hbx, bn, bm, bk, hfr'⟩
  simp only [rowS] at v4 v6
  by_cases hj : j < n
  · obtain ⟨B, hB⟩ : ∃ B, B = rowI k i A j := ⟨_, rfl⟩
    have hBn : rowI k i A (j + 1) = stI k i B j := by rw [rowI, hB]
    have hbj := hb j (by omega)
    rw [← hB] at hm hbj hH
    have w1 : IntKind.i64.wrap ((j : Int) + 1) = (j : Int) + 1 := wrap_i64 (by omega) (by omega)
    have w2 : IntKind.i64.wrap (B i k + B k j) = B i k + B k j := by
      have := hbj i k; have := hbj k j
      exact wrap_i64 (by omega) (by omega)
    have hfr : ∀ j, h.raw (h.next + j) = none := fun j => hfr' _ (by omega)
    have hl := hm.len
    have gk : h.get rk = some (.cells 3 (yCs n (B k))) := by rw [← hrk (by omega)]; exact hm.row k (by omega)
    have gi : h.get ri = some (.cells 3 (yCs n (B i))) := by rw [← hri (by omega)]; exact hm.row i (by omega)
    have rkm : rk ∈ ks := by rw [← hrk (by omega)]; exact List.getElem_mem _
    have rim : ri ∈ ks := by rw [← hri (by omega)]; exact List.getElem_mem _
    have hrin := hm.lt ri rim
    have i1 : i + 1 ≤ n := hi
    have k1 : k + 1 ≤ n := hk
    have j1 : j + 1 ≤ n := hj
    have hyl : ∀ y : Nat → Int, (yCs n y).length = n := yCs_len n
    have hyg : ∀ (y : Nat → Int) (h' : j < (yCs n y).length), (yCs n y)[j]'h' = D.int (y j) := fun y h' => Option.some.inj (by rw [← List.getElem?_eq_getElem h']; exact yCs_get hj)
    have hyk : ∀ (y : Nat → Int) (h' : k < (yCs n y).length), (yCs n y)[k]'h' = D.int (y k) := fun y h' => Option.some.inj (by rw [← List.getElem?_eq_getElem h']; exact yCs_get hk)
    obtain ⟨V, hV⟩ : ∃ V, V = min (B i j) (B i k + B k j) := ⟨_, rfl⟩
    have hst : (yCs n (B i)).take j ++ D.int V :: (yCs n (B i)).drop (j + 1) = yCs n (updA B i j V i) := by
      have : updA B i j V i = fun b => if b = j then V else B i b := by funext b; simp [updA]
      rw [this, ← yCs_set, List.set_eq_take_append_cons_drop, if_pos (by rw [hyl]; exact hj)]
    have o2 : ∀ a : Int, D.one (.val (.int .i64 a)) = true := fun _ => rfl
    by_cases hfar : B k j = 1000000000
    · have hBs : stI k i B j = B := by unfold stI; rw [if_pos hfar]
      simp [k62l0, v4, v30, v31, hj, hfar, gk, hyl, hyg, j1, w1]
      refine ⟨c - 1, by omega, _, _, j + 1, rfl, by omega, ⟨by simp [v1], by simp [v2], by simp [v4, rowS], by simp [v16], by simp [v17], by simp [v18]⟩, by simp [v6, rowS], by simp [v30], by simp, ?_⟩
      rw [hBn, hBs]
      repeat' first | exact hH | apply ThsH.bump
    · have hfar' : (B k j != 1000000000) = true := by simp [hfar]
      have hBs : stI k i B j = updA B i j V := by unfold stI; rw [if_neg hfar, hV]
      simp [-bne_iff_ne, k62l0, v1, v4, v6, v30, v31, hj, hfar', gk, gi, hyl, hyg, hyk, j1, k1, hk, w1, w2, D.cells, o2, ← hV, hst]
      refine ⟨c - 1, by omega, _, _, j + 1, rfl, by omega, ⟨by simp [v1], by simp [v2], by simp [v4, rowS], by simp [v16], by simp [v17], by simp [v18]⟩, by simp [v6, rowS], by simp [v30], by simp, ?_⟩
      rw [hBn, hBs]
      refine ThsH.bump (ThsH.put ((((hH.bump _).bump _).bump _).bump _) hi hri fun a ha => ?_) _
      funext b; simp [updA, ha]
  · simp [k62l0, v30, v31, hj]
    exact ⟨_, _, j, rfl, by omega, ⟨by simp [v1], by simp [v2], by simp [v4, rowS], by simp [v16], by simp [v17], by simp [v18]⟩, by simp [v6, rowS], by simp [v30], by simp [v31], hH.bump _⟩
def T1S (M : List Int) (kb : Nat) (n k : Nat) (A : Nat → Nat → Int) (mb bx rk : Nat) (ks : List Nat) (h0 : Heap) (c : Nat) (s : St) : Prop := ∃ (x : Env 58) (h : Heap) (i : Nat), s = ⟨x.l, h, []⟩ ∧ i + c = n ∧ ThrK M n k mb bx rk x i ∧ ThsH M kb n (stageI n k A i) mb bx ks h0 h
set_option maxHeartbeats 8000000 in
theorem ths_rows (M : List Int) (kb : Nat) (n k : Nat) (hMn : M.length = n) (hk : k < n) (hn : n ≤ 64) (A : Nat → Nat → Int) (mb bx rk : Nat) (ks : List Nat) (h0 : Heap) (hrk : ∀ hj : k < ks.length, ks[k] = rk) (hb : ∀ I, I < n → stageI n k A I I k ≠ 1000000000 → ∀ J, J ≤ n → ∀ a b, -1000000000000 ≤ rowI k I (stageI n k A I) J a b ∧ rowI k I (stageI n k A I) J a b ≤ 1000000000000) :
    ∀ f, 100 ≤ f → ∀ c s, T1S M kb n k A mb bx rk ks h0 c s → Res (k62l1.ev ⟨pg, 58, none⟩ (rc pg f) s) (Rnd (T1S M kb n k A mb bx rk ks h0) (fun x s => x = .exit 0 ∧ T1S M kb n k A mb bx rk ks h0 0 s) c) := by
  rintro f hf c s ⟨x, h, i, rfl, hic, ⟨v1, v2, v4, v16, v17, v18⟩, hH⟩
  simp only [rowS] at v16
  by_cases hi : i < n
  · obtain ⟨B, hB⟩ : ∃ B, B = stageI n k A i := ⟨_, rfl⟩
    have hbi := hb i hi
    rw [← hB] at hH hbi
    have w1 : IntKind.i64.wrap ((i : Int) + 1) = (i : Int) + 1 := wrap_i64 (by omega) (by omega)
    have hm := hH.mat
    have hl := hm.len
    have htop := hm.top
    have hbox := hH.box
    simp only [sS] at hbox
    obtain ⟨ri, r1, r2, r3, r4⟩ := hm.at hi
    obtain ⟨L, hL⟩ : ∃ L, L = ks.map (rowS n) := ⟨_, rfl⟩
    rw [← hL] at htop r1
    have hLl : L.length = n := by rw [hL]; simp [hl]
    simp only [rowS] at r1
    have i1 : i + 1 ≤ n := hi
    have k1 : k + 1 ≤ n := hk
    have hyl : ∀ y : Nat → Int, (yCs n y).length = n := yCs_len n
    have hyk : ∀ (y : Nat → Int) (h' : k < (yCs n y).length), (yCs n y)[k]'h' = D.int (y k) := fun y h' => Option.some.inj (by rw [← List.getElem?_eq_getElem h']; exact yCs_get hk)
    by_cases hfar : B i k = 1000000000
    · have hS : stageI n k A (i + 1) = B := by rw [stageI, ← hB, if_pos hfar]
      simp [k62l1, v16, v17, v18, hi, htop, r1, hLl, i1, v1, r4, hyl, hyk, hk, k1, hfar, w1]
      refine ⟨c - 1, by omega, _, _, i + 1, rfl, by omega, ⟨by simp [v1], by simp [v2], by simp [v4], by simp [v16, rowS], by simp [v17], by simp⟩, ?_⟩
      rw [hS]
      repeat' first | exact hH | apply ThsH.bump
    · have hfar' : (B i k == 1000000000) = false := by simp [hfar]
      have hS : stageI n k A (i + 1) = rowI k i B n := by rw [stageI, ← hB, if_neg hfar]
      simp [-beq_eq_false_iff_ne, k62l1, v16, v17, v18, hi, htop, r1, hLl, i1, v1, v2, hbox, r4, hyl, hyk, hk, k1, hfar', ev_loop, hMn]
      refine Res.after (P := fun x s => x = .normal ∧ T0S M kb n k i B mb bx rk ri ks h0 0 s) (Res.block (lp_rule 0 (T0S M kb n k i B mb bx rk ri ks h0) _ (ths_round M kb n k i hk hi hn B mb bx rk ri ks h0 hrk r3 (hbi hfar)) n f _ (by omega)
        ⟨_, _, 0, rfl, by omega, ⟨by simp [v1], by simp [v2], by simp [v4], by simp [v16, rowS], by simp [v17], by simp [v18]⟩, by simp [rowS], by simp, by simp, ?_⟩) (by rintro x s ⟨rfl, hh⟩; simp; exact hh)) ?_
      · show ThsH M kb n (rowI k i B 0) mb bx ks h0 _
        rw [rowI]
        repeat' first | exact hH | apply ThsH.bump
      · rintro x' s' ⟨rfl, x, h, j, rfl, hj, ⟨v1, v2, v4, v16, v17, v18⟩, v6, v30, v31, hH'⟩
        have hjn : j = n := by omega
        subst hjn
        simp [v18, w1]
        exact ⟨c - 1, by omega, _, _, i + 1, rfl, by omega, ⟨by simp [v1], by simp [v2], by simp [v4], by simp [v16], by simp [v17], by simp⟩, by rw [hS]; exact hH'.bump _⟩
  · simp [k62l1, v17, v18, hi]
    exact ⟨_, _, i, rfl, by omega, ⟨by simp [v1], by simp [v2], by simp [v4], by simp [v16, rowS], by simp [v17], by simp [v18]⟩, hH.bump _⟩
set_option maxHeartbeats 8000000 in
theorem ths_sh {M : List Int} {kb : Nat} {n : Nat} (hMn : M.length = n) (hn : n ≤ 64) {A : Nat → Nat → Int} {mb : Nat} {ks : List Nat} {h : Heap} (hm : Mat n A mb ks h) (hf : h.Fr) {k : Nat} (hk : k < n) (hb : ∀ I, I < n → stageI n k A I I k ≠ 1000000000 → ∀ J, J ≤ n → ∀ a b, -1000000000000 ≤ rowI k I (stageI n k A I) J a b ∧ rowI k I (stageI n k A I) J a b ≤ 1000000000000) {f : Nat} (hfl : 300 ≤ f) :
    ∃ h', (rc pg f).fn 62 [.agg [sS M kb, rowS n mb], D.int k] h = some (.ret (.tup []), h') ∧ Mat n (stageI n k A n) mb ks h' ∧ Only ks h h' ∧ h'.Fr := by
  obtain ⟨m, rfl, e⟩ := fn_body (pg := pg) (f := 62) (args := [.agg [sS M kb, rowS n mb], D.int k]) (h := h) (show 0 < f by omega) rfl rfl
  rw [e]
  have hfr : ∀ j, h.raw (h.next + j) = none := fun j => hf _ (by omega)
  obtain ⟨rk, k1, k2, k3, k4⟩ := hm.at hk
  have hkl := hm.lt rk k2
  have hmlt := hm.mlt
  have hl := hm.len
  have htop := hm.top
  have n1 : ∀ j, (mb = h.next + j) = False := fun j => by simp; omega
  obtain ⟨L, hL⟩ : ∃ L, L = ks.map (rowS n) := ⟨_, rfl⟩
  rw [← hL] at htop k1
  have hLl : L.length = n := by rw [hL]; simp [hl]
  simp only [rowS] at k1
  have kk1 : k + 1 ≤ n := hk
  have o1 : ∀ a b c d (e : Option Nat), D.one (.slr a b c d e) = true := fun _ _ _ _ _ => rfl
  have o3 : ∀ (z : Bool) (l : List D), D.one (.sl z l) = true := fun _ _ => rfl
  simp [k62, Env.v_ini, sS, rowS, hfr, D.cells, o1, Nat.add_assoc, htop, k1, hLl, hk, kk1, n1, ev_loop]
  refine Res.fin (lp_rule 100 (T1S M kb n k A mb (h.next + 2) rk ks h) _ (ths_rows M kb n k hMn hk hn A mb (h.next + 2) rk ks h k3 hb) n m _ (by omega) ⟨_, _, 0, rfl, by omega, ⟨by simp [Env.v_ini], by simp, by simp [rowS], by simp [rowS], by simp, by simp⟩, ?_⟩) ?_
  · have hks : ∀ q ∈ ks, q ≠ h.next + 2 := fun q hq => by have := (hm.lt q hq).1; omega
    refine ThsH.bump (ThsH.bump ⟨⟨hl, by simp [n1, hm.top], hm.nd, fun q hq => by have := hm.lt q hq; simp <;> omega, fun j hj => by simp [hks _ (List.getElem_mem hj), hm.row j hj, stageI], by simp <;> omega⟩, ⟨by simp <;> omega, fun q h1 h2 => by simp [show q ≠ h.next + 2 by omega]⟩, by simp [sS, rowS], by simp <;> omega, by omega, fun hq => hks _ hq rfl, ?_⟩ _) _
    exact (hf.bump _).set _ (by simp <;> omega)
  · rintro x s ⟨rfl, x, h', i, rfl, hi, hK, hT⟩
    have hin : i = n := by omega
    subst hin
    simp
    exact ⟨hT.mat, hT.only, hT.fr⟩
end Go.Proofs.YtlkpikdfbodhoaaDoor
/- Lists of numbers, one behind the other, by the program's library; rising. -/
namespace Go.Proofs.YtlkpikdfbodhoaaDoor
open Go Go.Em
set_option maxRecDepth 100000
theorem call_flatg {pg : Pg} {R : Rc} {f : FuncId} {a : D} {args bs : List D} {ks : List Nat} {h : Heap} {o : Out} (hs : pg.sh f = false) (ha : each (Go.Em.frz h depth) (a :: args) = some (bs, ks)) (x : pureCall R f bs = some o) (hf : o.d.flat = true) : call pg R f (a :: args) h = some (o, h) := by
  have e : call pg R f (a :: args) h = some (o, if (ks.isEmpty || o.d.flat) = true then h else h.kill ks) := by
    simp only [call, hs, ha, pureA, pureS, x, orS, Option.map_some, Bool.false_eq_true, if_false]
  rw [e, hf]
  simp
theorem growi_sh (size : Nat) (h0 : 0 < size) (hs : size ≤ 1000) {h : Heap} (hf : h.Fr) {n : Nat} (hn : 1 ≤ n) :
    ∃ k h', (rc pg n).fn 116 [.val (.slice none 0 0), D.int size] h = some (.ret (.slr k 0 0 1 none), h') ∧ h'.get k = some (.cells 3 (List.replicate size (D.int 0))) ∧ k < h'.next ∧ h.next ≤ k ∧ h'.Fr ∧ Un h h' := by
  obtain ⟨m, rfl, e⟩ := fn_body (pg := pg) (f := 116) (args := [.val (.slice none 0 0), D.int size]) (h := h) (show 0 < n by omega) rfl rfl
  rw [e]
  have hfr : ∀ j, h.raw (h.next + j) = none := fun j => hf _ (by omega)
  have h1 : ¬ (size : Int) < 0 := by omega
  have w0 : IntKind.i64.wrap 0 = 0 := rfl
  have w1 : IntKind.i64.wrap (size : Int) = size := wrap_i64 (by omega) (by omega)
  have r1 : size * 8 ≤ room := by unfold room; omega
  have r2 : size ≤ maxLen := by unfold maxLen; omega
  simp [k116, Env.v_ini, h1, w0, w1, h0, hfr, Nat.add_assoc, r1, r2, sliceR, upTo, mxOk, mxCap]
  refine ⟨_, _, ⟨rfl, rfl⟩, by simp [zer_rep], by simp, by omega, ?_, by simp; omega, fun j hj => ?_⟩
  · repeat' first | exact hf | apply Heap.Fr.bump | apply Heap.Fr.set
    all_goals (simp <;> omega)
  · have e2 : ∀ q, (j = h.next + q) = False := fun q => by simp; omega
    simp [e2]
theorem appS_in {t et sz bytes : Nat} {h : Heap} {m : Nat} {news cs : List D} {k n : Nat} {ty : TypeId} (hf : (n + m) * sz ≤ cs.length) (hr : (n + m) * bytes ≤ room) (hm : n + m ≤ maxLen) :
    appS t et sz bytes h m news k 0 n sz none (some (.cells ty cs)) = some (.slr k 0 (n + m) sz none, h.set k (some (.cells ty (cs.take (n * sz) ++ news ++ cs.drop (n * sz + m * sz))))) := by
  have e : (n + m) * sz = n * sz + m * sz := Nat.add_mul ..
  unfold appS
  simp only [hr, hm, and_self, and_true, true_and, Nat.zero_add]
  rw [if_pos (by omega), if_pos (by omega)]
def catD (M : List Int) (a b : Int) : D := .sl false [intsD M, intsD [a, b]]
def gaN (N i : Nat) : Nat := if i = 0 then 0 else if i = 1 then N else N + 2
def GaI (M : List Int) (a b : Int) (h0 : Heap) (k : Nat) (s : St) : Prop := ∃ (x : Env 36) (h : Heap) (i : Nat), s = ⟨x.l, h, []⟩ ∧ i + k = 2 ∧ x.v 0 = catD M a b ∧ x.v 9 = catD M a b ∧ x.v 10 = D.int (2 : Nat) ∧ x.v 11 = D.int i ∧ x.v 3 = D.int (gaN M.length i : Nat) ∧ h.Fr ∧ Un h0 h
set_option maxHeartbeats 4000000 in
theorem ga_round (M : List Int) (hM : M.length ≤ 64) (a b : Int) (h0 : Heap) : ∀ n, 0 ≤ n → ∀ k s, GaI M a b h0 k s → Res (k97l0.ev ⟨pg, 36, none⟩ (rc pg n) s) (Rnd (GaI M a b h0) (fun x s => x = .exit 0 ∧ GaI M a b h0 0 s) k) := by
  rintro n hn k s ⟨x, h, i, rfl, hik, v0, v9, v10, v11, v3, hf, u1, u2⟩
  have hi : i = 0 ∨ i = 1 ∨ i = 2 := by omega
  have w0 : IntKind.i64.wrap (M.length : Int) = (M.length : Int) := wrap_i64 (by omega) (by omega)
  have w2 : IntKind.i64.wrap ((M.length : Int) + 2) = (M.length : Int) + 2 := wrap_i64 (by omega) (by omega)
  have w3 : IntKind.i64.wrap 1 = 1 := rfl
  have w4 : IntKind.i64.wrap 2 = 2 := rfl
  have n1 : ¬ (M.length : Int) < 0 := by omega
  have n2 : ¬ (M.length : Int) + 2 < 0 := by omega
  rcases hi with rfl | rfl | rfl
  · simp only [gaN, if_true] at v3
    simp [k97l0, v9, v10, v11, v3, catD, intsD, D.cells, w0, w3, n1]
    exact ⟨1, by omega, _, _, 1, rfl, by omega, by simp [v0], by simp [v9], by simp [v10], by simp, by simp [gaN], by repeat' first | exact hf | apply Heap.Fr.bump | apply Heap.Fr.set, by simp; omega, fun j hj => by simp [u2 j hj]⟩
  · simp only [gaN, if_true] at v3
    simp [k97l0, v9, v10, v11, v3, catD, intsD, D.cells, w2, w4, n2]
    exact ⟨0, by omega, _, _, 2, rfl, by omega, by simp [v0], by simp [v9], by simp [v10], by simp, by simp [gaN], by repeat' first | exact hf | apply Heap.Fr.bump | apply Heap.Fr.set, by simp; omega, fun j hj => by simp [u2 j hj]⟩
  · simp [k97l0, v9, v10, v11]
    exact ⟨_, _, 2, rfl, by omega, by simp [v0], by simp [v9], by simp [v10], by simp [v11], by simp [v3], hf.bump _, by simp; omega, fun j hj => by simp [u2 j hj]⟩
def gbC (M : List Int) (a b : Int) (i : Nat) : List D := if i = 0 then List.replicate (M.length + 2) (D.int 0) else if i = 1 then M.map D.int ++ [D.int 0, D.int 0] else (M ++ [a, b]).map D.int
def GbI (M : List Int) (a b : Int) (kb : Nat) (h0 : Heap) (k : Nat) (s : St) : Prop := ∃ (x : Env 36) (h : Heap) (i : Nat), s = ⟨x.l, h, []⟩ ∧ i + k = 2 ∧ x.v 25 = catD M a b ∧ x.v 26 = D.int (2 : Nat) ∧ x.v 27 = D.int i ∧ x.v 6 = .slr kb 0 (gaN M.length i) 1 none ∧ h.get kb = some (.cells 3 (gbC M a b i)) ∧ kb < h.next ∧ h0.next ≤ kb ∧ h.Fr ∧ Un h0 h
set_option maxHeartbeats 4000000 in
theorem gb_round (M : List Int) (hM : M.length ≤ 64) (a b : Int) (kb : Nat) (h0 : Heap) : ∀ n, 0 ≤ n → ∀ k s, GbI M a b kb h0 k s → Res (k97l1.ev ⟨pg, 36, none⟩ (rc pg n) s) (Rnd (GbI M a b kb h0) (fun x s => x = .exit 2 ∧ GbI M a b kb h0 0 s) k) := by
  rintro n hn k s ⟨x, h, i, rfl, hik, v25, v26, v27, v6, gk, kn, hk0, hf, u1, u2⟩
  have hi : i = 0 ∨ i = 1 ∨ i = 2 := by omega
  have w3 : IntKind.i64.wrap 1 = 1 := rfl
  have w4 : IntKind.i64.wrap 2 = 2 := rfl
  have a1 := ints_all M
  have a2 := ints_one M
  have a3 := ints_flat M
  have hj2 : ∀ j, j < h0.next → (j = kb) = False := fun j hj => by simp; omega
  rcases hi with rfl | rfl | rfl
  · simp only [gaN, gbC, if_true] at v6 gk
    by_cases h0 : M = []
    · subst h0
      simp [k97l1, v25, v26, v27, v6, catD, intsD, D.cells, w3, apK_zero_slr]
      exact ⟨1, by omega, _, _, 1, rfl, by omega, by simp [v25], by simp [v26], by simp, by simp [gaN], by simp [gk, gbC], by simp; omega, hk0, by repeat' first | exact hf | apply Heap.Fr.bump | apply Heap.Fr.set, by simp; omega, fun j hj => by simp [u2 j hj]⟩
    · have hl0 : M.length ≠ 0 := fun e => h0 (List.eq_nil_of_length_eq_zero e)
      have ap := fun t h => appS_in (t := t) (et := 3) (sz := 1) (bytes := 8) (h := h) (m := M.length) (news := M.map D.int) (cs := List.replicate (M.length + 2) (D.int 0)) (k := kb) (n := 0) (ty := 3) (by simp) (by unfold room; omega) (by unfold maxLen; omega)
      have hd : List.drop M.length (List.replicate (M.length + 2) (D.int 0)) = [D.int 0, D.int 0] := by rw [List.drop_replicate, show M.length + 2 - M.length = 2 by omega]; rfl
      simp [k97l1, v25, v26, v27, v6, catD, intsD, gk, D.cells, w3, apK_some, a1, a2, a3, hl0, ap]
      exact ⟨1, by omega, _, _, 1, rfl, by omega, by simp [v25], by simp [v26], by simp, by simp [gaN], by simp [gbC], by simp; omega, hk0, by
        repeat' first | exact hf | apply Heap.Fr.bump | apply Heap.Fr.set
        all_goals (simp <;> omega), by simp; omega, fun j hj => by simp [u2 j hj, hj2 j hj]⟩
  · simp only [gaN, gbC, if_true] at v6 gk
    have ap := fun t h => appS_in (t := t) (et := 3) (sz := 1) (bytes := 8) (h := h) (m := 2) (news := [D.int a, D.int b]) (cs := M.map D.int ++ [D.int 0, D.int 0]) (k := kb) (n := M.length) (ty := 3) (by simp) (by unfold room; omega) (by unfold maxLen; omega)
    simp [k97l1, v25, v26, v27, v6, catD, intsD, gk, D.cells, w4, apK_some, D.one, ap]
    exact ⟨0, by omega, _, _, 2, rfl, by omega, by simp [v25], by simp [v26], by simp, by simp [gaN], by simp [gbC], by simp; omega, hk0, by
        repeat' first | exact hf | apply Heap.Fr.bump | apply Heap.Fr.set
        all_goals (simp <;> omega), by simp; omega, fun j hj => by simp [u2 j hj, hj2 j hj]⟩
  · simp [k97l1, v25, v26, v27]
    exact ⟨_, _, 2, rfl, by omega, by simp [v25], by simp [v26], by simp [v27], by simp [v6], by simp [gk], by simp; omega, hk0, hf.bump _, by simp; omega, fun j hj => by simp [u2 j hj]⟩
set_option maxHeartbeats 4000000 in
theorem cat_sh (M : List Int) (hM : M.length ≤ 64) (a b : Int) {h : Heap} (hf : h.Fr) {n : Nat} (hn : 100 ≤ n) :
    ∃ k h', (rc pg n).fn 97 [catD M a b] h = some (.ret (.slr k 0 (M.length + 2) 1 none), h') ∧ h'.get k = some (.cells 3 ((M ++ [a, b]).map D.int)) ∧ k < h'.next ∧ h.next ≤ k ∧ h'.Fr ∧ Un h h' := by
  obtain ⟨m, rfl, e⟩ := fn_body (pg := pg) (f := 97) (args := [catD M a b]) (h := h) (show 0 < n by omega) rfl rfl
  rw [e]
  simp [k97, Env.v_ini, catD, intsD, ev_loop]
  refine Res.tailG (F := fun k => .slr k 0 (M.length + 2) 1 none) (C := fun k h' => h'.get k = some (.cells 3 (M.map D.int ++ [D.int a, D.int b])) ∧ k < h'.next ∧ h.next ≤ k ∧ h'.Fr ∧ Un h h') (lp_rule 0 (GaI M a b h) _ (ga_round M hM a b h) 2 m _ (by omega) ⟨_, _, 0, rfl, by omega, by simp [Env.v_ini, catD, intsD], by simp [catD, intsD], by simp, by simp, by simp [gaN], by repeat' first | exact hf | apply Heap.Fr.bump | apply Heap.Fr.set, by simp; omega, fun j hj => by simp⟩) ?_
  rintro x s ⟨rfl, x, h1, i, rfl, hi, v0, v9, v10, v11, v3, hf1, u1, u2⟩
  obtain rfl : i = 2 := by omega
  simp only [gaN] at v3
  have v3' : x.v 3 = D.int ((M.length + 2 : Nat) : Int) := by simpa using v3
  obtain ⟨H, hH⟩ : ∃ H, H = h1.bump 36 := ⟨_, rfl⟩
  have hHf : H.Fr := by rw [hH]; exact hf1.bump _
  obtain ⟨kb, h2, r1, g2, k1, k2, f2, u3, u4⟩ := growi_sh (M.length + 2) (by omega) (by omega) hHf (n := m) (by omega)
  have c1 := call_sh (pg := pg) (f := 116) rfl r1
  rw [show ((M.length + 2 : Nat) : Int) = (M.length : Int) + 2 by omega] at c1 v3'
  have hHn : h1.next < H.next := by rw [hH]; simp
  have hHr : ∀ j, H.raw j = h1.raw j := fun j => by rw [hH]; simp
  have hHg : ∀ j, H.get j = h1.get j := fun j => by unfold Heap.get; rw [hHr j]
  have hg2 : ∀ j, j < H.next → h2.get j = H.get j := fun j hj => by unfold Heap.get; rw [u4 j hj]
  simp only [catD, intsD] at v0
  simp [v3', ← hH, c1, v0, ev_loop]
  refine Res.tailG (F := fun k => .slr k 0 (M.length + 2) 1 none) (C := fun k h' => h'.get k = some (.cells 3 (M.map D.int ++ [D.int a, D.int b])) ∧ k < h'.next ∧ h.next ≤ k ∧ h'.Fr ∧ Un h h') (lp_rule 0 (GbI M a b kb h) _ (gb_round M hM a b kb h) 2 m _ (by omega) ⟨_, _, 0, rfl, by omega, by simp [v0, catD, intsD], by simp, by simp, by simp [gaN], by simp [g2, gbC], by simp; omega, by omega, by repeat' first | exact f2 | apply Heap.Fr.bump | apply Heap.Fr.set, by simp; omega, fun j hj => by simp [u4 j (by omega), hHr, u2 j hj]⟩) ?_
  rintro x s ⟨rfl, x, h3, i, rfl, hi, v25, v26, v27, v6, g3, k3, k4, f3, u5, u6⟩
  obtain rfl : i = 2 := by omega
  simp only [gaN, gbC] at v6 g3
  have v6' : x.v 6 = .slr kb 0 (M.length + 2) 1 none := by simpa using v6
  simp [v6']
  exact ⟨kb, _, ⟨rfl, rfl⟩, by simpa using g3, by simp; omega, k4, by repeat' first | exact f3 | apply Heap.Fr.bump | apply Heap.Fr.set, by simp; omega, fun j hj => by simp [u6 j hj]⟩
end Go.Proofs.YtlkpikdfbodhoaaDoor
