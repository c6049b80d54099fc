/- Sources are left out one by one, from the last one on, by the program. -/
import Derived.Test.YtppfjkebamegnaaDoorCf1
import Derived.Test.YtppfjkebamegnaaDoorQv1
namespace Go.Proofs.YtppfjkebamegnaaDoor
open Go Go.Em Go.Em.Net
set_option maxRecDepth 100000
def stB (l : List Clm) (S : List Int) (B : Int → Bool) (v : Int) : Int → Bool := if badF (onlyF l (inB S (updB B v false))) = true then updB B v false else updB B v true
def CL (X : Env 36) (M : Nat) : Lp := ⟨X.l, [25, 26], k37l0, k37l1, M, .ready, .normal⟩
structure CJ (X : Env 36) (l : List Clm) (S : List Int) (C : List D) (c0 : Option Nat) (M p6 b kb kc : Nat) (B : Int → Bool) (h : Heap) : Prop where
  gK : h.get (M + 1) = some (.loop (CL X M))
  gM : h.get M = some .mark
  g6 : h.get p6 = some (.cells 105 [clsD l, .mapr b])
  gb : h.get b = some (.map (mapK S B))
  gs : h.get kb = some (.cells 3 C)
  gc : h.get kc = some (.cells 31 [.slr kb 0 S.length 1 c0])
  nx : M + 2 ≤ h.next
  fr : h.Fr
theorem CJ.bump {X : Env 36} {l : List Clm} {S : List Int} {C : List D} {c0 : Option Nat} {M p6 b kb kc : Nat} {B : Int → Bool} {h : Heap} (t : CJ X l S C c0 M p6 b kb kc B h) (z : Nat) : CJ X l S C c0 M p6 b kb kc B (h.bump z) :=
  ⟨by simp [t.gK], by simp [t.gM], by simp [t.g6], by simp [t.gb], by simp [t.gs], by simp [t.gc], by have := t.nx; simp; omega, t.fr.bump z⟩
structure Apart (M p6 b kb kc : Nat) : Prop where
  l6 : p6 < M
  lb : b < M
  ls : kb < M
  lc : kc < M
  d1 : b ≠ p6
  d2 : b ≠ kb
  d3 : b ≠ kc
set_option maxHeartbeats 8000000 in
theorem cj_step (l : List Clm) (h0 : chkF l = 0) {X : Env 36} {S : List Int} (hS : S.Nodup) {C : List D} {c0 : Option Nat} {M p6 b kb kc : Nat} (ap : Apart M p6 b kb kc) (x6 : X.v 6 = .ptr p6 0) {B : Int → Bool} {h : Heap} (t : CJ X l S C c0 M p6 b kb kc B h) (i : Int) {v : Int} (hv : v ∈ S) {n : Nat} (hn : 5000 ≤ n) :
    ∃ h', (rc pg n).yl (M + 1) [D.int i, D.int v] h = some (.ret (D.bool true), h') ∧ CJ X l S C c0 M p6 b kb kc (stB l S B v) h' := by
  obtain ⟨m, rfl⟩ := more_of (show 1 ≤ n by omega)
  obtain ⟨q, hq⟩ : ∃ q, q = CL X M := ⟨_, rfl⟩
  have qe : q.e = X.l := by rw [hq]; rfl
  have qp : q.ps = [25, 26] := by rw [hq]; rfl
  have qa : q.as = k37l0 := by rw [hq]; rfl
  have qb : q.bd = k37l1 := by rw [hq]; rfl
  have qs : q.st = .ready := by rw [hq]; rfl
  have gK := t.gK
  rw [← hq] at gK
  obtain ⟨l6, lb, ls, lc, d1, d2, d3⟩ := ap
  suffices hy : ∃ (x : Ex) (h' : Heap), x.fine = true ∧ (x = .normal ∧ CJ X l S C c0 M p6 b kb kc (stB l S B v) (h'.set (M + 1) (some (.loop (CL X M))))) ∧ (rc pg (m + 1)).yl (M + 1) [D.int i, D.int v] h = some (.ret (D.bool x.code.isNone), h'.set (M + 1) (some (.loop (q.over x)))) by
    obtain ⟨x, h', _, ⟨rfl, hj⟩, e⟩ := hy
    refine ⟨_, e, ?_⟩
    have : q.over .normal = CL X M := by rw [hq]; rfl
    rw [this]; exact hj
  refine yl_rule (args := [D.int i, D.int v]) gK (by rw [qp]; rfl) qs ?_
  have hfr : ∀ j, h.raw (h.next + j) = none := fun j => t.fr _ (by omega)
  have nx := t.nx
  have ne1 : ∀ j, (M + 1 = h.next + j) = False := fun j => by simp; omega
  have g6 := t.g6
  have gb := t.gb
  obtain ⟨H1, hH1⟩ : ∃ H, H = ((h.bump 36).set (M + 1) (some (.loop q.busy))).bump 36 := ⟨_, rfl⟩
  have nb1 : (b = M + 1) = False := by simp; omega
  have n61 : (p6 = M + 1) = False := by simp; omega
  have ns1 : (kb = M + 1) = False := by simp; omega
  have nc1 : (kc = M + 1) = False := by simp; omega
  have nM1 : (M = M + 1) = False := by simp
  have hb1 : H1.get b = some (.map (mapK S B)) := by rw [hH1]; simp [nb1, gb]
  have h61 : H1.get p6 = some (.cells 105 [clsD l, .mapr b]) := by rw [hH1]; simp [n61, g6]
  have hn1 : H1.next = h.next + 72 := by rw [hH1]; simp
  have hf1 : H1.Fr := by
    rw [hH1]
    exact ((t.fr.bump _).set _ (by simp; omega)).bump _
  obtain ⟨h2, r2, gb2, f2, n2, u2⟩ := fw_sh l h0 hS B hv hb1 (by omega) hf1 (n := m) (by omega)
  have c78 := call_sh (pg := pg) (f := 78) rfl r2
  have g62 : h2.get p6 = some (.cells 105 [clsD l, .mapr b]) := by unfold Heap.get at h61 ⊢; rw [u2 p6 (by omega) (Ne.symm d1)]; exact h61
  have gK2 : h2.get (M + 1) = some (.loop q.busy) := by
    unfold Heap.get
    rw [u2 (M + 1) (by omega) (by omega), hH1]
    simp
  have gM2 : h2.get M = some .mark := by
    have g := t.gM
    unfold Heap.get at g ⊢
    rw [u2 M (by omega) (by omega), hH1]
    simpa [nM1] using g
  have gs2 : h2.get kb = some (.cells 3 C) := by
    have g := t.gs
    unfold Heap.get at g ⊢
    rw [u2 kb (by omega) (Ne.symm d2), hH1]
    simpa [ns1] using g
  have gc2 : h2.get kc = some (.cells 31 [.slr kb 0 S.length 1 c0]) := by
    have g := t.gc
    unfold Heap.get at g ⊢
    rw [u2 kc (by omega) (Ne.symm d3), hH1]
    simpa [nc1] using g
  have j2 : ∀ B', h2.get b = some (.map (mapK S B')) → CJ X l S C c0 M p6 b kb kc B' (h2.set (M + 1) (some (.loop (CL X M)))) := fun B' hB' =>
    ⟨by simp, by simp [gM2], by simp [n61, g62], by simp [nb1, hB'], by simp [ns1, gs2], by simp [nc1, gc2], by simp; omega, f2.set _ (by omega)⟩
  have o1 : D.one (clsD l) = true := rfl
  have o2 : D.one (.mapr b) = true := rfl
  obtain ⟨K0, hK0⟩ : ∃ K0, K0 = clsD l := ⟨_, rfl⟩
  rw [← hK0] at g6 g62 c78 o1
  rw [qe, qa, qp, qb]
  cases hr : badF (onlyF l (inB S (updB B v false))) with
  | false =>
    have hst : stB l S B v = updB B v true := by unfold stB; rw [hr]; rfl
    rw [hr] at c78
    rw [hst]
    simp [k37l0, k37l1, gK, X.hl, x6, ← hH1, g6, n61, c78]
    exact ⟨rfl, gK2, j2 _ gb2⟩
  | true =>
    have hst : stB l S B v = updB B v false := by unfold stB; rw [hr]; rfl
    rw [hr] at c78
    rw [hst]
    rcases findK v (updB B v true) S 0 with ⟨h1, _⟩ | ⟨j, f1, hj, hjv⟩
    · exact absurd hv h1
    rw [Nat.zero_add] at f1
    have s1 := mapK_set hS (updB B v true) hj false
    rw [hjv, updB_upd] at s1
    simp [-findD, k37l0, k37l1, gK, X.hl, x6, ← hH1, g6, n61, g62, gb2, c78, f1, s1]
    have e1 : (M = b) = False := by simp; omega
    have e2 : (p6 = b) = False := by simp; omega
    have e3 : (kb = b) = False := by simp; omega
    have e4 : (kc = b) = False := by simp; omega
    rw [hK0] at g62
    exact ⟨rfl, by rw [if_neg (by omega)]; exact gK2, ⟨by simp, by simp [e1, gM2], by simp [n61, e2, g62], by simp [nb1], by simp [ns1, e3, gs2], by simp [nc1, e4, gc2], by simp; omega, ((f2.bump _).set _ (by simp; omega)).set _ (by simp; omega)⟩⟩
def foldB (l : List Clm) (S : List Int) : Nat → (Int → Bool)
  | 0 => fun _ => true
  | i + 1 => stB l S (foldB l S i) (S.getD (S.length - 1 - i) 0)
def BwI (X : Env 36) (l : List Clm) (S : List Int) (C : List D) (c0 : Option Nat) (M p6 b kb kc : Nat) (k : Nat) (s : St) : Prop := ∃ (x : Env 19) (h : Heap) (i : Nat), s = ⟨x.l, h, []⟩ ∧ i + k = S.length ∧ x.v 0 = .yld (M + 1) ∧ x.v 1 = .ptr kc 0 ∧ x.v 3 = D.int ((S.length : Int) - 1 - i) ∧ CJ X l S C c0 M p6 b kb kc (foldB l S i) h
set_option maxHeartbeats 8000000 in
theorem bw_round (l : List Clm) (h0 : chkF l = 0) {X : Env 36} {S : List Int} (hS : S.Nodup) (hSl : S.length ≤ 400) {C : List D} (hCl : S.length ≤ C.length) (hC : ∀ (i : Nat) (v : Int), S[i]? = some v → C[i]? = some (D.int v)) {c0 : Option Nat} {M p6 b kb kc : Nat} (ap : Apart M p6 b kb kc) (x6 : X.v 6 = .ptr p6 0) :
    ∀ n, 5000 ≤ n → ∀ k s, BwI X l S C c0 M p6 b kb kc k s → Res (k107l0.ev ⟨pg, 19, none⟩ (rc pg n) s) (Rnd (BwI X l S C c0 M p6 b kb kc) (fun x s => x = .exit 0 ∧ BwI X l S C c0 M p6 b kb kc 0 s) k) := by
  rintro n hn k s ⟨x, h, i, rfl, hik, v0, v1, v3, t⟩
  by_cases hi : i < S.length
  · obtain ⟨j, hj⟩ : ∃ j, j = S.length - 1 - i := ⟨_, rfl⟩
    have hjl : j < S.length := by omega
    obtain ⟨v, hv⟩ : ∃ v, S[j] = v := ⟨_, rfl⟩
    have hgd : S.getD j 0 = v := by rw [List.getD_eq_getElem?_getD, List.getElem?_eq_getElem hjl, hv]; rfl
    have hCj := hC j v (by rw [List.getElem?_eq_getElem hjl, hv])
    have e1 : ∀ h' : j < C.length, C[j]'h' = D.int v := fun h' => by have := List.getElem?_eq_getElem h'; rw [hCj] at this; exact (Option.some.inj this).symm
    have l1 : j + 1 ≤ C.length := by omega
    have l2 : j < C.length := by omega
    have w3 : ((S.length : Int) - 1 - i) = (j : Int) := by omega
    have w1 : IntKind.i64.wrap ((j : Int) - 1) = (j : Int) - 1 := wrap_i64 (by omega) (by omega)
    rw [w3] at v3
    have t1 := ((t.bump 19).bump 19)
    obtain ⟨h', ey, t2⟩ := cj_step l h0 hS ap x6 t1 (j : Int) (v := v) (by rw [← hv]; exact List.getElem_mem hjl) hn
    have hfb : foldB l S (i + 1) = stB l S (foldB l S i) v := by rw [foldB, ← hj, hgd]
    have gs := t.gs
    have gc := t.gc
    simp [k107l0, v0, v1, v3, gs, gc, e1, l1, l2, hjl, ey, w1]
    have w4 : (S.length : Int) - 1 - ((i + 1 : Nat) : Int) = (j : Int) - 1 := by omega
    exact ⟨k - 1, by omega, _, _, i + 1, rfl, by omega, by simp [v0], by simp [v1], by rw [w4]; simp, by rw [hfb]; exact t2.bump _⟩
  · have w3 : ((S.length : Int) - 1 - i) = -1 := by omega
    rw [w3] at v3
    simp [k107l0, v3]
    exact ⟨_, _, i, rfl, by omega, by simp [v0], by simp [v1], by rw [w3]; simp [v3], t.bump _⟩
theorem res_in {o : Option (Ex × St)} {id : Nat} {R : Rc} {rs : List (ResultVar × Bool × Nat)} {P : Ex → St → Prop} {C : Heap → Prop} (h : Res o P) (hk : ∀ x s, P x s → ∃ d h', endH R rs (blockK id (some (x, s))) = some (.ret d, h') ∧ C h') :
    ∃ d h', endH R rs (blockK id o) = some (.ret d, h') ∧ C h' := by
  obtain ⟨x, s, rfl, p⟩ := h; exact hk x s p
theorem bw_run (l : List Clm) (h0 : chkF l = 0) {X : Env 36} {S : List Int} (hS : S.Nodup) (hSl : S.length ≤ 400) {C : List D} (hCl : S.length ≤ C.length) (hC : ∀ (i : Nat) (v : Int), S[i]? = some v → C[i]? = some (D.int v)) {c0 : Option Nat} {M p6 b kb kc : Nat} (ap : Apart M p6 b kb kc) (x6 : X.v 6 = .ptr p6 0) {h : Heap} (t : CJ X l S C c0 M p6 b kb kc (fun _ => true) h) {n : Nat} (hn : 6000 ≤ n) :
    ∃ d h', (rc pg n).fn 107 [.yld (M + 1), .ptr kc 0] h = some (.ret d, h') ∧ CJ X l S C c0 M p6 b kb kc (foldB l S S.length) h' := by
  obtain ⟨m, rfl, e⟩ := fn_body (pg := pg) (f := 107) (args := [.yld (M + 1), .ptr kc 0]) (h := h) (show 0 < n by omega) rfl rfl
  rw [e]
  have gc := t.gc
  have w1 : IntKind.i64.wrap ((S.length : Int) - 1) = (S.length : Int) - 1 := wrap_i64 (by omega) (by omega)
  simp [k107, Env.v_ini, gc, w1, ev_loop]
  refine res_in (C := fun h' => CJ X l S C c0 M p6 b kb kc (foldB l S S.length) h') (lp_rule 5000 (BwI X l S C c0 M p6 b kb kc) _ (bw_round l h0 hS hSl hCl hC ap x6) S.length m _ (by omega) ⟨_, _, 0, rfl, by omega, by simp [Env.v_ini], by simp [Env.v_ini], by simp, t.bump _⟩) ?_
  rintro x s ⟨rfl, x, h1, i, rfl, hi, _, _, _, t1⟩
  obtain rfl : i = S.length := by omega
  simp
  exact ⟨_, _, ⟨rfl, rfl⟩, t1⟩
def BwP (X : Env 36) (l : List Clm) (S : List Int) (C : List D) (M p6 b kb : Nat) (B : Int → Bool) (x : Ex) (s : St) : Prop := x = .normal ∧ ∃ h, s = ⟨X.l, h, [.mark M]⟩ ∧ h.get M = some .mark ∧ h.get p6 = some (.cells 105 [clsD l, .mapr b]) ∧ h.get b = some (.map (mapK S B)) ∧ h.get kb = some (.cells 3 C) ∧ h.Fr ∧ M + 2 ≤ h.next
theorem bw_range (l : List Clm) (h0 : chkF l = 0) {X : Env 36} {S : List Int} (hS : S.Nodup) (hSl : S.length ≤ 400) {C : List D} (hCl : S.length ≤ C.length) (hC : ∀ (i : Nat) (v : Int), S[i]? = some v → C[i]? = some (D.int v)) {c0 : Option Nat} {p6 b kb kc : Nat} (x6 : X.v 6 = .ptr p6 0) {h : Heap} (hf : h.Fr) (ap : Apart h.next p6 b kb kc)
    (g6 : h.get p6 = some (.cells 105 [clsD l, .mapr b])) (gb : h.get b = some (.map (mapK S fun _ => true))) (gs : h.get kb = some (.cells 3 C)) (gc : h.get kc = some (.cells 31 [.slr kb 0 S.length 1 c0])) (x24 : X.v 24 = .fn (.func 107) [] [.ptr kc 0]) {n : Nat} (hn : 6000 ≤ n) :
    Res (Cd.ev ⟨pg, 36, none⟩ (rc pg n) (.rangeF (.s 24) [25, 26] k37l0 k37l1) { e := X.l, h, df := [] }) (BwP X l S C h.next p6 b kb (foldB l S S.length)) := by
  refine Res.rangeF rfl (f := 107) (fs := []) (cs := [.ptr kc 0]) x24 hf ?_
  have ap' := ap
  obtain ⟨l6, lb, ls, lc, d1, d2, d3⟩ := ap'
  obtain ⟨M, hM⟩ : ∃ M, M = h.next := ⟨_, rfl⟩
  rw [← hM] at ap l6 lb ls lc
  have f1 : ∀ q, q < M → (q = M) = False ∧ (q = M + 1) = False := fun q hq => by simp; omega
  have t : CJ X l S C c0 M p6 b kb kc (fun _ => true) (((h.bump 2).set M (some .mark)).set (M + 1) (some (.loop (CL X M)))) :=
    ⟨by simp, by simp, by simp [f1 p6 l6, g6], by simp [f1 b lb, gb], by simp [f1 kb ls, gs], by simp [f1 kc lc, gc], by simp; omega, ((hf.bump _).set _ (by simp; omega)).set _ (by simp; omega)⟩
  obtain ⟨d, h3, e, t3⟩ := bw_run l h0 hS hSl hCl hC ap x6 t hn
  rw [← hM]
  refine ⟨d, h3, CL X M, e, t3.gK, (show LoopState.ready ≠ LoopState.busy by decide), rfl, rfl, _, rfl, ?_, ?_, ?_, ?_, ?_, ?_⟩
  · simp [t3.gM]
  · simp [f1 p6 l6, t3.g6]
  · simp [f1 b lb, t3.gb]
  · simp [f1 kb ls, t3.gs]
  · exact t3.fr.set _ (by have := t3.nx; omega)
  · have := t3.nx; simp; omega
end Go.Proofs.YtppfjkebamegnaaDoor
/- Numbers are taken out of a list in the heap, by the program's library. -/
namespace Go.Proofs.YtppfjkebamegnaaDoor
open Go Go.Em Go.Em.Net
set_option maxRecDepth 100000
theorem del_run (K0 : D) (h1 : D.one K0 = true) (K : List Int) (B : Int → Bool) (v : Int) {n : Nat} (hn : 1 ≤ n) : pureCall (rc pg n) 80 [D.int v, .eref [K0, .map (mapK K B)]] = some (.ret (D.bool (!inB K B v))) := by
  obtain ⟨m, rfl, e⟩ := body (pg := pg) (f := 80) (args := [D.int v, .eref [K0, .map (mapK K B)]]) (show 0 < n by omega) rfl rfl
  rw [e]
  have o2 : D.one (D.map (mapK K B)) = true := rfl
  rcases findK v B K 0 with ⟨h1, h2⟩ | ⟨j, h1, h2, h3⟩
  · have hb : inB K B v = false := by unfold inB; simp [h1]
    simp [-findD, k80, Env.v_ini, h2, hb, D.of]
    try exact ⟨[], rfl⟩
  · have hb : inB K B v = B v := by unfold inB; rw [decide_eq_true (by rw [← h3]; exact List.getElem_mem h2), Bool.true_and]
    simp [-findD, k80, Env.v_ini, h1, hb]
theorem del_call (l : List Clm) (K : List Int) (B : Int → Bool) {p6 b : Nat} {H : Heap} (g6 : H.get p6 = some (.cells 105 [clsD l, .mapr b])) (gb : H.get b = some (.map (mapK K B))) (v : Int) {n : Nat} (hn : 1 ≤ n) : call pg (rc pg n) 80 [D.int v, .ptr p6 0] H = some (.ret (D.bool (!inB K B v)), H) := by
  refine callfzg (bs := [D.int v, .eref [clsD l, .map (mapK K B)]]) (ks := [p6, b]) rfl ?_ (del_run (clsD l) rfl K B v hn) rfl
  have z1 : frz H 23 (.mapr b) = _ := frz_mapr (n := 21) gb
  have z2 : frz H 23 (clsD l) = some (clsD l, []) := frz_can (n := 22) (by simp [clsD, canonL_map clD cl_canon l])
  show each (frz H 24) _ = _
  rw [each_cons, each_cons, each_nil, frz_int, frz_ptr, g6, frzP_cells, List.drop_zero, each_cons, each_cons, each_nil, z2, z1]
  rfl
def FdD (p6 : Nat) : D := .fn (.func 80) [] [.ptr p6 0]
def XfI (S : List Int) (C : List D) (c0 : Option Nat) (P : Int → Bool) (kb p6 : Nat) (h0 : Heap) (k : Nat) (s : St) : Prop := ∃ (x : Env 19) (h : Heap) (i : Nat), s = ⟨x.l, h, []⟩ ∧ i + k = S.length ∧ x.v 0 = .slr kb 0 S.length 1 c0 ∧ x.v 1 = FdD p6 ∧ x.v 7 = D.int S.length ∧ x.v 8 = D.int i ∧ ixP P 0 S = ixP P i (S.drop i) ∧ h.get kb = some (.cells 3 C) ∧ h.Fr ∧ Un h0 h
def XfR (S : List Int) (P : Int → Bool) (h0 : Heap) (x : Ex) (s : St) : Prop := ((x = .exit 0 ∧ ixP P 0 S = -1) ∨ x = .ret) ∧ ∃ (y : Env 19) (h : Heap), s = ⟨y.l, h, []⟩ ∧ h.Fr ∧ Un h0 h ∧ (x = .ret → y.v 4 = D.int (ixP P 0 S))
set_option maxHeartbeats 4000000 in
theorem ixf_round (l : List Clm) {S : List Int} (hSl : S.length ≤ 400) {C : List D} (hCl : S.length ≤ C.length) (hC : ∀ (i : Nat) (v : Int), S[i]? = some v → C[i]? = some (D.int v)) (c0 : Option Nat) (K : List Int) (B : Int → Bool) {kb p6 b : Nat} {h0 : Heap} (g6 : h0.get p6 = some (.cells 105 [clsD l, .mapr b])) (gb : h0.get b = some (.map (mapK K B))) (l6 : p6 < h0.next) (lb : b < h0.next) :
    ∀ n, 10 ≤ n → ∀ k s, XfI S C c0 (fun v => !inB K B v) kb p6 h0 k s → Res (k108l0.ev ⟨pg, 19, none⟩ (rc pg n) s) (Rnd (XfI S C c0 (fun v => !inB K B v) kb p6 h0) (XfR S (fun v => !inB K B v) h0) k) := by
  rintro n hn k s ⟨x, h, i, rfl, hik, v0, v1, v7, v8, ho, gk, hf, u1, u2⟩
  simp only [FdD] at v1
  by_cases hi : i < S.length
  · obtain ⟨r, hr⟩ : ∃ r, S[i] = r := ⟨_, rfl⟩
    have hd : S.drop i = r :: S.drop (i + 1) := by rw [List.drop_eq_getElem_cons hi, hr]
    rw [hd, ixP] at ho
    have w1 : IntKind.i64.wrap ((i : Int) + 1) = (i : Int) + 1 := wrap_i64 (by omega) (by omega)
    have hCj := hC i r (by rw [List.getElem?_eq_getElem hi, hr])
    have e1 : ∀ h' : i < C.length, C[i]'h' = D.int r := fun h' => by have := List.getElem?_eq_getElem h'; rw [hCj] at this; exact (Option.some.inj this).symm
    have l1 : i + 1 ≤ C.length := by omega
    have l2 : i < C.length := by omega
    have g6' : h.get p6 = some (.cells 105 [clsD l, .mapr b]) := by unfold Heap.get at g6 ⊢; rw [u2 p6 l6]; exact g6
    have gb' : h.get b = some (.map (mapK K B)) := by unfold Heap.get at gb ⊢; rw [u2 b lb]; exact gb
    have dc := fun (H : Heap) (q1 : H.get p6 = some (.cells 105 [clsD l, .mapr b])) (q2 : H.get b = some (.map (mapK K B))) => del_call l K B q1 q2 r (n := n) (by omega)
    cases hb : inB K B r with
    | false =>
      simp only [hb, Bool.not_false, if_true] at ho
      simp only [hb, Bool.not_false] at dc
      obtain ⟨K0, hK0⟩ : ∃ K0, K0 = clsD l := ⟨_, rfl⟩
      rw [← hK0] at g6' dc
      simp [k108l0, v0, v1, v7, v8, hi, gk, e1, l1, l2, g6', gb', dc]
      exact ⟨.inr rfl, _, _, rfl, by repeat' first | exact hf | apply Heap.Fr.bump, ⟨by simp; omega, fun j hj => by simp [u2 j hj]⟩, fun _ => by simp [ho]⟩
    | true =>
      simp only [hb, Bool.not_true, Bool.false_eq_true, if_false] at ho
      simp only [hb, Bool.not_true] at dc
      obtain ⟨K0, hK0⟩ : ∃ K0, K0 = clsD l := ⟨_, rfl⟩
      rw [← hK0] at g6' dc
      simp [k108l0, v0, v1, v7, v8, hi, gk, e1, l1, l2, g6', gb', dc, w1]
      exact ⟨k - 1, by omega, _, _, i + 1, rfl, by omega, by simp [v0], by simp [v1, FdD], by simp [v7], by simp, ho, by simp [gk], by repeat' first | exact hf | apply Heap.Fr.bump, by simp; omega, fun j hj => by simp [u2 j hj]⟩
  · have hiN : i = S.length := by omega
    subst hiN
    rw [List.drop_length] at ho
    simp [k108l0, v7, v8]
    exact ⟨.inl ⟨rfl, ho⟩, _, _, rfl, hf.bump _, ⟨by simp; omega, fun j hj => by simp [u2 j hj]⟩, fun e => by cases e⟩
set_option maxHeartbeats 4000000 in
theorem ixf_sh (l : List Clm) {S : List Int} (hSl : S.length ≤ 400) {C : List D} (hCl : S.length ≤ C.length) (hC : ∀ (i : Nat) (v : Int), S[i]? = some v → C[i]? = some (D.int v)) (c0 : Option Nat) (K : List Int) (B : Int → Bool) {kb p6 b : Nat} {h : Heap} (g6 : h.get p6 = some (.cells 105 [clsD l, .mapr b])) (gb : h.get b = some (.map (mapK K B))) (gk : h.get kb = some (.cells 3 C)) (l6 : p6 < h.next) (lb : b < h.next) (hf : h.Fr) {n : Nat} (hn : 1000 ≤ n) :
    ∃ h', (rc pg n).fn 108 [.slr kb 0 S.length 1 c0, FdD p6] h = some (.ret (D.int (ixP (fun v => !inB K B v) 0 S)), h') ∧ h'.Fr ∧ Un h h' := by
  obtain ⟨m, rfl, e⟩ := fn_body (pg := pg) (f := 108) (args := [.slr kb 0 S.length 1 c0, FdD p6]) (h := h) (show 0 < n by omega) rfl rfl
  rw [e]
  simp [k108, Env.v_ini, ev_loop]
  refine Res.fin3 (lp_rule 10 (XfI S C c0 (fun v => !inB K B v) kb p6 h) _ (ixf_round l hSl hCl hC c0 K B g6 gb l6 lb) S.length m _ (by omega) ⟨_, _, 0, rfl, by omega, by simp [Env.v_ini], by simp [Env.v_ini], by simp, by simp, rfl, by simp [gk], by repeat' first | exact hf | apply Heap.Fr.bump, by simp; omega, fun j hj => by simp⟩) ?_
  rintro x s ⟨hx, y, h1, rfl, f1, u1, hy⟩
  rcases hx with ⟨rfl, hm⟩ | rfl
  · simp [hm]
    exact ⟨f1.bump _, by have := u1.1; simp; omega, fun j hj => by simp [u1.2 j hj]⟩
  · simp [hy rfl]
    exact ⟨f1, u1⟩
def DfI (S : List Int) (C : List D) (c0 : Option Nat) (P : Int → Bool) (kb p6 b : Nat) (c6 cb : Blk) (h0 : Heap) (k : Nat) (s : St) : Prop := ∃ (x : Env 42) (h : Heap) (i j : Nat) (W : List D), s = ⟨x.l, h, []⟩ ∧ j + k = S.length ∧ i ≤ j ∧ x.v 0 = .slr kb 0 S.length 1 c0 ∧ x.v 1 = FdD p6 ∧ x.v 5 = D.int i ∧ x.v 6 = D.int j ∧ h.get kb = some (.cells 3 W) ∧ W.length = C.length ∧ W.take i = ((S.take j).filter P).map D.int ∧ (∀ t, j ≤ t → W[t]? = C[t]?) ∧ h.get p6 = some c6 ∧ h.get b = some cb ∧ kb < h.next ∧ h0.next ≤ h.next ∧ (∀ q, q < h0.next → q ≠ kb → h.raw q = h0.raw q) ∧ h.Fr
set_option maxHeartbeats 4000000 in
theorem df_round (l : List Clm) {S : List Int} (hSl : S.length ≤ 400) {C : List D} (hCl : S.length ≤ C.length) (hC : ∀ (i : Nat) (v : Int), S[i]? = some v → C[i]? = some (D.int v)) (c0 : Option Nat) (K : List Int) (B : Int → Bool) {kb p6 b : Nat} {h0 : Heap} (d1 : kb ≠ p6) (d2 : kb ≠ b) :
    ∀ n, 10 ≤ n → ∀ k s, DfI S C c0 (inB K B) kb p6 b (.cells 105 [clsD l, .mapr b]) (.map (mapK K B)) h0 k s → Res (k79l0.ev ⟨pg, 42, none⟩ (rc pg n) s) (Rnd (DfI S C c0 (inB K B) kb p6 b (.cells 105 [clsD l, .mapr b]) (.map (mapK K B)) h0) (fun x s => x = .exit 0 ∧ DfI S C c0 (inB K B) kb p6 b (.cells 105 [clsD l, .mapr b]) (.map (mapK K B)) h0 0 s) k) := by
  rintro n hn k s ⟨x, h, i, j, W, rfl, hjk, hij, v0, v1, v5, v6, gk, hWl, hWt, hWr, g6, gb, kn, un, uq, hf⟩
  have v1' := v1
  simp only [FdD] at v1
  by_cases hj : j < S.length
  · obtain ⟨r, hr⟩ : ∃ r, S[j] = r := ⟨_, rfl⟩
    have htk : S.take (j + 1) = S.take j ++ [r] := by rw [List.take_add_one, List.getElem?_eq_getElem hj, hr]; rfl
    have w1 : IntKind.i64.wrap ((j : Int) + 1) = (j : Int) + 1 := wrap_i64 (by omega) (by omega)
    have w2 : IntKind.i64.wrap ((i : Int) + 1) = (i : Int) + 1 := wrap_i64 (by omega) (by omega)
    have hCj := hC j r (by rw [List.getElem?_eq_getElem hj, hr])
    have e1 : ∀ h' : j < W.length, W[j]'h' = D.int r := fun h' => by have := List.getElem?_eq_getElem h'; rw [hWr j (Nat.le_refl _), hCj] at this; exact (Option.some.inj this).symm
    have l1 : j + 1 ≤ W.length := by omega
    have l2 : j < W.length := by omega
    have l3 : i + 1 ≤ W.length := by omega
    have l4 : i < S.length := by omega
    have n1 : (p6 = kb) = False := by simp; omega
    have n2 : (b = kb) = False := by simp; omega
    have dc := fun (H : Heap) (q1 : H.get p6 = some (.cells 105 [clsD l, .mapr b])) (q2 : H.get b = some (.map (mapK K B))) => del_call l K B q1 q2 r (n := n) (by omega)
    cases hb : inB K B r with
    | false =>
      simp only [hb, Bool.not_false] at dc
      have hfl : (S.take (j + 1)).filter (inB K B) = (S.take j).filter (inB K B) := by rw [htk, List.filter_append]; simp [hb]
      have g6q := g6
      obtain ⟨K0, hK0⟩ : ∃ K0, K0 = clsD l := ⟨_, rfl⟩
      rw [← hK0] at g6 dc
      simp [k79l0, v0, v1, v6, hj, gk, e1, l1, l2, g6, gb, dc, w1]
      exact ⟨k - 1, by omega, _, _, i, j + 1, W, rfl, by omega, by omega, by simp [v0], by simp [v1, FdD], by simp [v5], by simp, by simp [gk], hWl, by rw [hfl]; exact hWt, fun t ht => hWr t (by omega), by simp [g6q], by simp [gb], by simp; omega, by simp; omega, fun q h1 h2 => by simp [uq q h1 h2], by repeat' first | exact hf | apply Heap.Fr.bump⟩
    | true =>
      simp only [hb, Bool.not_true] at dc
      have hfl : (S.take (j + 1)).filter (inB K B) = (S.take j).filter (inB K B) ++ [r] := by rw [htk, List.filter_append]; simp [hb]
      have hil : i = ((S.take j).filter (inB K B)).length := by
        have := congrArg List.length hWt
        rw [List.length_take, List.length_map] at this
        omega
      have g6q := g6
      obtain ⟨K0, hK0⟩ : ∃ K0, K0 = clsD l := ⟨_, rfl⟩
      rw [← hK0] at g6 dc
      have o2 : ∀ a : Int, D.one (.val (.int .i64 a)) = true := fun _ => rfl
      obtain ⟨W', hW'⟩ : ∃ W', W' = W.take i ++ D.int r :: W.drop (i + 1) := ⟨_, rfl⟩
      simp [k79l0, v0, v1, v5, v6, hj, gk, e1, l1, l2, l3, l4, g6, gb, dc, w1, w2, D.cells, o2, ← hW']
      refine ⟨k - 1, by omega, _, _, i + 1, j + 1, W', rfl, by omega, by omega, by simp [v0], by simp [v1, FdD], by simp, by simp, by simp, ?_, ?_, fun t ht => ?_, by simp [n1, g6q], by simp [n2, gb], by simp; omega, by simp; omega, fun q h1 h2 => by simp [h2, uq q h1 h2], ?_⟩
      · rw [hW', List.length_append, List.length_cons, List.length_take, List.length_drop]; omega
      · rw [hfl, List.map_append, ← hWt, hW', List.take_append, List.take_of_length_le (by rw [List.length_take]; omega), List.length_take, Nat.min_eq_left (by omega), show i + 1 - i = 1 by omega]
        rfl
      · rw [hW', List.getElem?_append_right (by rw [List.length_take]; omega), List.length_take, Nat.min_eq_left (by omega), List.getElem?_cons, if_neg (by omega), List.getElem?_drop, ← hWr t (by omega)]
        congr 1; omega
      · repeat' first | exact hf | apply Heap.Fr.bump | apply Heap.Fr.set
        all_goals (simp <;> omega)
  · simp [k79l0, v0, v6, hj]
    exact ⟨_, _, i, j, W, rfl, by omega, hij, by simp [v0], by simp [v1, FdD], by simp [v5], by simp [v6], by simp [gk], hWl, hWt, hWr, by simp [g6], by simp [gb], by simp; omega, by simp; omega, fun q h1 h2 => by simp [uq q h1 h2], hf.bump _⟩
end Go.Proofs.YtppfjkebamegnaaDoor
/- Numbers are taken out of a list in the heap, by the program's library: the function. -/
namespace Go.Proofs.YtppfjkebamegnaaDoor
open Go Go.Em Go.Em.Net
set_option maxRecDepth 100000
theorem slq_lo {kb N c0 i L : Nat} (h1 : i < N) (h2 : N ≤ c0) : sliceR kb 0 1 (some c0) (i : Int) (N : Int) none (upTo (some c0) N 0 1 L) = some (.slr kb i (N - i) 1 (some (c0 - i))) := by
  unfold sliceR
  have e1 : ¬ ((i : Int) = N ∧ 0 < (i : Int)) := by omega
  have e2 : (decide (0 ≤ (i : Int)) && decide ((i : Int) ≤ N) && upTo (some c0) N 0 1 L N && mxOk N (upTo (some c0) N 0 1 L) none) = true := by
    unfold upTo mxOk; simp; omega
  have e3 : ¬ ((i : Int) = c0 ∧ 0 < (i : Int)) := by omega
  rw [if_pos e2]
  simp [mxCap]
  omega
theorem slq_hi {kb N c0 m L : Nat} (h1 : m ≤ N) : sliceR kb 0 1 (some c0) 0 (m : Int) none (upTo (some c0) N 0 1 L) = some (.slr kb 0 m 1 (some c0)) := by
  unfold sliceR
  have e1 : ¬ ((0 : Int) = m ∧ (0 : Int) < 0) := by omega
  have e2 : (decide ((0 : Int) ≤ 0) && decide ((0 : Int) ≤ m) && upTo (some c0) N 0 1 L m && mxOk m (upTo (some c0) N 0 1 L) none) = true := by
    unfold upTo mxOk; simp; omega
  rw [if_pos e2]
  simp [mxCap]
theorem ix_first (P : Int → Bool) (S : List Int) : (ixP (fun v => !P v) 0 S = -1 ∧ S.filter P = S) ∨ ∃ j, j < S.length ∧ ixP (fun v => !P v) 0 S = (j : Int) ∧ (S.take (j + 1)).filter P = S.take j := by
  rcases ixP_ge (fun v => !P v) S 0 with ⟨h1, h2⟩ | ⟨j, h1, h2, h3, h4, h5⟩
  · exact .inl ⟨h1, List.filter_eq_self.2 fun v hv => by simpa using h2 v hv⟩
  · refine .inr ⟨j, h2, by rw [h1, Nat.zero_add], ?_⟩
    have htk : S.take (j + 1) = S.take j ++ [S[j]] := by rw [List.take_add_one, List.getElem?_eq_getElem h4]; rfl
    rw [htk, List.filter_append, List.filter_eq_self.2 fun v hv => by simpa using h3 v hv]
    have : P S[j] = false := by simpa using h5
    simp [this]
def InF (h : Heap) (kb : Nat) (F : List Int) : Prop := ∃ W : List D, h.get kb = some (.cells 3 W) ∧ W.take F.length = F.map D.int ∧ F.length ≤ W.length
set_option maxHeartbeats 8000000 in
theorem delf_sh (l : List Clm) {S : List Int} (hSl : S.length ≤ 400) {C : List D} (hCl : S.length ≤ C.length) (hCt : C.take S.length = S.map D.int) {c0 : Nat} (hc0 : S.length ≤ c0) (K : List Int) (B : Int → Bool) {kb p6 b : Nat} {h : Heap} (g6 : h.get p6 = some (.cells 105 [clsD l, .mapr b])) (gb : h.get b = some (.map (mapK K B))) (gk : h.get kb = some (.cells 3 C)) (l6 : p6 < h.next) (lb : b < h.next) (lk : kb < h.next) (hf : h.Fr) (d1 : kb ≠ p6) (d2 : kb ≠ b) {n : Nat} (hn : 2000 ≤ n) :
    ∃ h', (rc pg n).fn 79 [.slr kb 0 S.length 1 (some c0), FdD p6] h = some (.ret (.slr kb 0 (S.filter (inB K B)).length 1 (some c0)), h') ∧ (InF h' kb (S.filter (inB K B)) ∧ h'.Fr ∧ h.next ≤ h'.next ∧ ∀ q, q < h.next → q ≠ kb → h'.raw q = h.raw q) := by
  obtain ⟨m, rfl, e⟩ := fn_body (pg := pg) (f := 79) (args := [.slr kb 0 S.length 1 (some c0), FdD p6]) (h := h) (show 0 < n by omega) rfl rfl
  rw [e]
  have hC : ∀ (i : Nat) (v : Int), S[i]? = some v → C[i]? = some (D.int v) := fun i v hv => by
    have hi := (List.getElem?_eq_some_iff.1 hv).1
    have : (C.take S.length)[i]? = (S.map D.int)[i]? := by rw [hCt]
    rw [List.getElem?_take, if_pos hi, List.getElem?_map, hv] at this
    exact this
  obtain ⟨H1, hH1⟩ : ∃ H, H = (h.bump 42).bump 42 := ⟨_, rfl⟩
  have hr1 : ∀ j, H1.raw j = h.raw j := fun j => by rw [hH1]; simp
  have hg1 : ∀ j, H1.get j = h.get j := fun j => by unfold Heap.get; rw [hr1 j]
  have hn1 : H1.next = h.next + 84 := by rw [hH1]; simp
  obtain ⟨h2, r2, f2, u2⟩ := ixf_sh l hSl hCl hC (some c0) K B (kb := kb) (by rw [hg1]; exact g6) (by rw [hg1]; exact gb) (by rw [hg1]; exact gk) (by omega) (by omega) (by rw [hH1]; exact (hf.bump _).bump _) (n := m) (by omega)
  have c2 := call_sh (pg := pg) (f := 108) rfl r2
  have hg2 : ∀ j, j < h.next → h2.get j = h.get j := fun j hj => by unfold Heap.get; rw [u2.2 j (by omega), hr1 j]
  have n2 := u2.1
  simp only [FdD] at c2
  rcases ix_first (inB K B) S with ⟨hx, hfl⟩ | ⟨j, hj, hx, hfl⟩
  · rw [hx] at c2
    rw [hfl]
    simp [k79, Env.v_ini, FdD, ← hH1, c2]
    refine ⟨⟨C, by simp [hg2 kb lk, gk], hCt, hCl⟩, (f2.bump _).bump _, by omega, fun q h1 h2 => by simp [u2.2 q (by omega), hr1]⟩
  · rw [hx] at c2
    have w1 : IntKind.i64.wrap ((j : Int) + 1) = (j : Int) + 1 := wrap_i64 (by omega) (by omega)
    have hne : ((j : Int) == -1) = false := by simp
    simp [-beq_iff_eq, -beq_eq_false_iff_ne, k79, Env.v_ini, FdD, ← hH1, c2, hne, w1, ev_loop]
    refine Res.fin3 (lp_rule 10 (DfI S C (some c0) (inB K B) kb p6 b (.cells 105 [clsD l, .mapr b]) (.map (mapK K B)) h) _ (df_round l hSl hCl hC (some c0) K B d1 d2) (S.length - (j + 1)) m _ (by omega) ⟨_, _, j, j + 1, C, rfl, by omega, by omega, by simp [Env.v_ini], by simp [Env.v_ini, FdD], by simp, by simp, by simp [hg2 kb lk, gk], rfl, ?_, fun t _ => rfl, by simp [hg2 p6 l6, g6], by simp [hg2 b lb, gb], by simp; omega, by simp; omega, fun q h1 h2 => by simp [u2.2 q (by omega), hr1], by repeat' first | exact f2 | apply Heap.Fr.bump⟩) ?_
    · rw [hfl, List.map_take, ← hCt, List.take_take, Nat.min_eq_left (by omega)]
    rintro x s ⟨rfl, x, h3, i, q, W, rfl, hq, hiq, v0, v1, v5, v6, gW, hWl, hWt, hWr, _, _, kn, un, uq, f3⟩
    obtain rfl : q = S.length := by omega
    rw [List.take_length] at hWt
    obtain ⟨F, hF⟩ : ∃ F, F = S.filter (inB K B) := ⟨_, rfl⟩
    rw [← hF] at hWt ⊢
    have hiF : i = F.length := by
      have := congrArg List.length hWt
      rw [List.length_take, List.length_map] at this
      omega
    have hFl : F.length < S.length := by
      have h1 : (S.take (j + 1) ++ S.drop (j + 1)).filter (inB K B) = F := by rw [List.take_append_drop, hF]
      rw [List.filter_append, hfl] at h1
      have h2 := congrArg List.length h1
      rw [List.length_append, List.length_take, Nat.min_eq_left (by omega)] at h2
      have h3 := List.length_filter_le (inB K B) (S.drop (j + 1))
      rw [List.length_drop] at h3
      omega
    subst hiF
    have t1 := slq_lo (kb := kb) (L := W.length) hFl hc0
    have t2 := slq_hi (kb := kb) (m := F.length) (L := W.length) (c0 := c0) (Nat.le_of_lt hFl)
    have t3 : ¬ (S.length - F.length = 0) := by omega
    have t4 : F.length + (S.length - F.length) = S.length := by omega
    have t5 : S.length ≤ W.length := by omega
    obtain ⟨W2, hW2⟩ : ∃ W2, W2 = W.take F.length ++ (zerosD [.int .i64 0] 1 (S.length - F.length) ++ W.drop S.length) := ⟨_, rfl⟩
    have t6 := slq_hi (kb := kb) (m := F.length) (L := W2.length) (c0 := c0) (Nat.le_of_lt hFl)
    simp [v0, v5, gW, t1, t3, t4, t5, ← hW2, t6]
    refine ⟨⟨W2, by simp, ?_, ?_⟩, ?_, by omega, fun q h1 h2 => by simp [h2, uq q h1 h2]⟩
    · rw [hW2, List.take_append, List.take_of_length_le (by rw [List.length_take]; omega), List.length_take, Nat.min_eq_left (by omega), Nat.sub_self, List.take_zero, List.append_nil]
      exact hWt
    · rw [hW2, List.length_append, List.length_take]; omega
    · repeat' first | exact f3 | apply Heap.Fr.bump | apply Heap.Fr.set
      all_goals (simp <;> omega)
end Go.Proofs.YtppfjkebamegnaaDoor
/- A least conflict, by the program. -/
namespace Go.Proofs.YtppfjkebamegnaaDoor
open Go Go.Em Go.Em.Net
set_option maxRecDepth 100000
theorem foldl_nodup : ∀ (l m : List Int), (m ++ l).Nodup → l.foldl (fun m n => if n ∈ m then m else m ++ [n]) m = m ++ l
  | [], m, _ => by simp
  | n :: l, m, h => by
    have hn : n ∉ m := fun hm => by
      have := (List.nodup_append.1 h).2.2 n hm n List.mem_cons_self
      exact this rfl
    rw [List.foldl_cons, if_neg hn, foldl_nodup l (m ++ [n]) (by simpa using h)]
    simp
theorem setF_id {S : List Int} (h : S.Nodup) : setF S = S := by unfold setF; rw [foldl_nodup S [] (by simpa using h)]; rfl
theorem rise_nodup {S : List Int} (h : Rise S) : S.Nodup := List.Pairwise.imp (fun {a b} (hab : a < b) => by omega) h
theorem bk_sh (kb N : Nat) (c0 : Option Nat) {h : Heap} (hf : h.Fr) {n : Nat} (hn : 1 ≤ n) : ∃ h', (rc pg n).fn 77 [.slr kb 0 N 1 c0] h = some (.ret (.fn (.func 107) [] [.ptr (h.next + 1) 0]), h') ∧ h'.get (h.next + 1) = some (.cells 31 [.slr kb 0 N 1 c0]) ∧ h.next + 2 ≤ h'.next ∧ h'.Fr ∧ Un h h' := by
  obtain ⟨m, rfl, e⟩ := fn_body (pg := pg) (f := 77) (args := [.slr kb 0 N 1 c0]) (h := h) (show 0 < n by omega) rfl rfl
  rw [e]
  have hfr : ∀ j, h.raw (h.next + j) = none := fun j => hf _ (by omega)
  have o1 : D.one (.slr kb 0 N 1 c0) = true := rfl
  simp [k77, Env.v_ini, hfr, o1, D.cells]
  refine ⟨?_, by simp; omega, fun j hj => by simp [show j ≠ h.next + 1 by omega]⟩
  repeat' first | exact hf | apply Heap.Fr.bump | apply Heap.Fr.set
  all_goals (simp <;> omega)
def k37t : Cd :=
  .seq (.seq (.region [⟨none, some 23, .inl (.mv (.s 5))⟩,
 ⟨none, some 24, .inr (.fn 77 [(.s 23)])⟩])
 (.block 0 (.rangeF (.s 24) [25, 26] k37l0 k37l1)))
 (.seq (.region [⟨none, some 33, .inl (.mv (.s 5))⟩,
 ⟨none, some 34, .inl (.mkf (.func 80) [] [(.s 6)])⟩,
 ⟨none, some 35, .inr (.fn 79 [(.s 33), (.s 34)])⟩,
 ⟨none, some 2, .inl (.mv (.s 35))⟩,
 ⟨none, some 3, .inl (.mv (.c (.int .i64 0)))⟩])
 (.ret))
theorem k37_eq : k37 = .seq (.region [⟨none, some 2, .inl (.mv (.c (.slice none 0 0)))⟩,
 ⟨none, some 3, .inl (.mv (.c (.int .i64 0)))⟩])
 (.seq (.seq (.region [⟨none, some 9, .inl (.mv (.s 0))⟩,
 ⟨none, some 10, .inr (.fn 29 [(.s 9)])⟩,
 ⟨none, some 4, .inl (.mv (.s 10))⟩])
 (.seq (.region [⟨none, some 11, .inl (.mv (.s 4))⟩,
 ⟨none, some 12, .inl (.bin .neq (.s 11) (.c (.int .i64 0)))⟩])
 (.cond (.s 12) (.seq (.region [⟨none, some 13, .inl (.mv (.s 4))⟩,
 ⟨none, some 2, .inl (.mv (.c (.slice none 0 0)))⟩,
 ⟨none, some 3, .inl (.mv (.s 13))⟩])
 (.ret))
 (.skip))))
 (.seq (.region [⟨none, some 14, .inl (.mv (.s 0))⟩,
 ⟨none, some 15, .inr (.fn 32 [(.s 14)])⟩,
 ⟨none, some 5, .inl (.mv (.s 15))⟩])
 (.seq (.region [⟨none, some 16, .inl (.mv (.s 0))⟩,
 ⟨none, some 17, .inl (.mv (.s 5))⟩,
 ⟨none, some 18, .inr (.fn 75 [(.s 17)])⟩,
 ⟨none, some 19, .inl (.bld [(.slice none 0 0), (.map none)] [(0, 1, (.s 16)), (1, 1, (.s 18))])⟩,
 ⟨none, some 6, .inl (.alloc 105 [(.slice none 0 0), (.map none)])⟩,
 ⟨none, none, .inl (.st 2 (.s 6) (.s 19))⟩])
 (.seq (.seq (.region [⟨none, some 20, .inl (.ld true 2 (.s 6))⟩,
 ⟨none, some 21, .inr (.fn 76 [(.s 20)])⟩,
 ⟨none, some 22, .inl (.not (.s 21))⟩])
 (.cond (.s 22) (.seq (.region [⟨none, some 2, .inl (.mv (.c (.slice none 0 0)))⟩,
 ⟨none, some 3, .inl (.mv (.c (.int .i64 4)))⟩])
 (.ret))
 (.skip)))
  k37t)))) := rfl

set_option maxHeartbeats 8000000 in
theorem conf_tail (l : List Clm) (h0 : chkF l = 0) {S : List Int} (hS : S.Nodup) (hSl : S.length ≤ 400) {C : List D} (hCl : S.length ≤ C.length) (hCt : C.take S.length = S.map D.int) {c0 : Nat} (hc0 : S.length ≤ c0) {kb p6 b : Nat} {h : Heap} (g6 : h.get p6 = some (.cells 105 [clsD l, .mapr b])) (gb : h.get b = some (.map (mapK S fun _ => true))) (gk : h.get kb = some (.cells 3 C)) (l6 : p6 < h.next) (lb : b < h.next) (lk : kb < h.next) (hf : h.Fr) (d1 : kb ≠ p6) (d2 : kb ≠ b) (d3 : b ≠ p6) (y : Env 36) (v5 : y.v 5 = .slr kb 0 S.length 1 (some c0)) (v6 : y.v 6 = .ptr p6 0) {n : Nat} (hn : 7000 ≤ n) :
    ∃ h', endH (rc pg n) [(.tmp 2, false, 0), (.tmp 3, false, 0)] (k37t.ev ⟨pg, 36, none⟩ (rc pg n) ⟨y.l, h, []⟩) = some (.ret (.tup [.slr kb 0 (S.filter (inB S (foldB l S S.length))).length 1 (some c0), D.int 0]), h') ∧ (InF h' kb (S.filter (inB S (foldB l S S.length))) ∧ h'.Fr ∧ h.next ≤ h'.next) := by
  have hC : ∀ (i : Nat) (v : Int), S[i]? = some v → C[i]? = some (D.int v) := fun i v hv => by
    have hi := (List.getElem?_eq_some_iff.1 hv).1
    have : (C.take S.length)[i]? = (S.map D.int)[i]? := by rw [hCt]
    rw [List.getElem?_take, if_pos hi, List.getElem?_map, hv] at this
    exact this
  obtain ⟨H1, hH1⟩ : ∃ H, H = h.bump 36 := ⟨_, rfl⟩
  have hg1 : ∀ j, H1.get j = h.get j := fun j => by rw [hH1]; simp
  have hn1 : H1.next = h.next + 36 := by rw [hH1]; simp
  obtain ⟨h2, r2, gc, n2, f2, u2⟩ := bk_sh kb S.length (some c0) (h := H1) (by rw [hH1]; exact hf.bump _) (n := n) (by omega)
  have c2 := call_sh (pg := pg) (f := 77) rfl r2
  have hg2 : ∀ j, j < h.next → h2.get j = h.get j := fun j hj => by rw [← hg1 j]; unfold Heap.get; rw [u2.2 j (by omega)]
  simp [k37t, v5, ← hH1, c2]
  have l2 : h.next ≤ h2.next := by omega
  refine Res.fin3 (bw_range l h0 hS hSl hCl hC (c0 := some c0) (kc := H1.next + 1) (by simp [v6]) f2 ⟨by omega, by omega, by omega, by omega, d3, Ne.symm d2, by omega⟩ (by rw [hg2 p6 l6]; exact g6) (by rw [hg2 b lb]; exact gb) (by rw [hg2 kb lk]; exact gk) gc (by simp) (by omega)) ?_
  rintro x s ⟨rfl, h3, rfl, gM, g63, gb3, gk3, f3, n3⟩
  obtain ⟨H4, hH4⟩ : ∃ H, H = h3.bump 36 := ⟨_, rfl⟩
  obtain ⟨h5, r5, in5, f5, n5, u5⟩ := delf_sh l hSl hCl hCt hc0 S (foldB l S S.length) (kb := kb) (p6 := p6) (b := b) (h := H4) (by rw [hH4]; simp [g63]) (by rw [hH4]; simp [gb3]) (by rw [hH4]; simp [gk3]) (by rw [hH4]; simp; omega) (by rw [hH4]; simp; omega) (by rw [hH4]; simp; omega) (by rw [hH4]; exact f3.bump _) d1 d2 (n := n) (by omega)
  have c5 := call_sh (pg := pg) (f := 79) rfl r5
  have gM5 : h5.get h2.next = some .mark := by
    unfold Heap.get at gM ⊢
    rw [u5 h2.next (by rw [hH4]; simp; omega) (by omega), hH4]
    simpa using gM
  simp only [FdD] at c5
  obtain ⟨F, hF⟩ : ∃ F, F = S.filter (inB S (foldB l S S.length)) := ⟨_, rfl⟩
  rw [← hF] at c5 in5 ⊢
  have n4 : h.next ≤ h5.next := by
    have : H4.next = h3.next + 36 := by rw [hH4]; simp
    omega
  simp [v5, v6, ← hH4, c5, gM5]
  obtain ⟨W, w1, w2, w3⟩ := in5
  exact ⟨⟨W, by simp [show kb ≠ h2.next by omega, w1], w2, w3⟩, f5.set _ (by
    have : H4.next = h3.next + 36 := by rw [hH4]; simp
    omega), n4⟩
theorem only_all (l : List Clm) : onlyF l (inB (srcF l) fun _ => true) = l := by
  unfold onlyF
  refine List.filter_eq_self.2 fun c hc => ?_
  unfold inB
  simp [(src_mem l c.by_).2 ⟨c, hc, rfl⟩]
def leftF (l : List Clm) : List Int := (srcF l).filter (inB (srcF l) (foldB l (srcF l) (srcF l).length))
def conE (l : List Clm) : Int := if chkF l ≠ 0 then chkF l else if badF l = false then 4 else 0
set_option maxHeartbeats 8000000 in
theorem conflict_sh (l : List Clm) {h : Heap} (hf : h.Fr) {n : Nat} (hn : 2000000 ≤ n) : ∃ d h', (rc pg n).fn 37 [clsD l] h = some (.ret (.tup [d, D.int (conE l)]), h') ∧ ((conE l ≠ 0 → d = .val (.slice none 0 0)) ∧ (conE l = 0 → ∃ kb c0, d = .slr kb 0 (leftF l).length 1 c0 ∧ InF h' kb (leftF l)) ∧ h'.Fr ∧ h.next ≤ h'.next) := by
  obtain ⟨m, rfl, e⟩ := fn_body (pg := pg) (f := 37) (args := [clsD l]) (h := h) (show 0 < n by omega) rfl rfl
  rw [e]
  have ck := fun h => call_of (h := h) (pg := pg) (f := 29) rfl (cls_canon l) (@chk_run l m (by omega))
  have oC : D.one (clsD l) = true := rfl
  have hfr : ∀ j, h.raw (h.next + j) = none := fun j => hf _ (by omega)
  by_cases h0 : chkF l = 0
  · rw [h0] at ck
    obtain ⟨hl1, hl2, hl3⟩ := chk_ok h0
    obtain ⟨H1, hH1⟩ : ∃ H, H = (((h.bump 36).bump 36).bump 36).bump 36 := ⟨_, rfl⟩
    have hf1 : H1.Fr := by rw [hH1]; repeat' first | exact hf | apply Heap.Fr.bump
    obtain ⟨kb, h2, Z, r2, hZ, gk2, k2, k3, f2, u2⟩ := sources_sh l h0 hf1 (n := m) (by omega)
    have c2 := call_sh (pg := pg) (f := 32) rfl r2
    obtain ⟨S, hSd⟩ : ∃ S, S = srcF l := ⟨_, rfl⟩
    have hSr : Rise S := by rw [hSd]; exact src_rise l
    have hSn := rise_nodup hSr
    have hSl : S.length ≤ l.length := by rw [hSd]; exact src_len l
    rw [← hSd] at c2 hZ gk2
    have hn1 : H1.next = h.next + 144 := by rw [hH1]; simp
    obtain ⟨b, h3, r3, gb3, b1, f3, b2, u3⟩ := sets_sh S Z (kb := kb) (some l.length) rfl (by omega) (h := h2.bump 36) (by simp [gk2]) (by simp; omega) (f2.bump _) (n := m) (by omega)
    have c3 := call_sh (pg := pg) (f := 75) rfl r3
    rw [setF_id hSn, mapD_K] at gb3
    have gk3 : h3.get kb = some (.cells 3 ((S ++ Z).map D.int)) := by unfold Heap.get at gk2 ⊢; rw [u3.2 kb (by simp; omega)]; simpa using gk2
    have hb2 : h2.next + 36 ≤ b := by simpa using b2
    have hu3 : h2.next + 36 ≤ h3.next := by simpa using u3.1
    have hr3 : h3.raw (h2.next + 6) = none := by rw [u3.2 (h2.next + 6) (by simp)]; simp [f2 (h2.next + 6) (by omega)]
    obtain ⟨K0, hK0⟩ : ∃ K0, K0 = clsD l := ⟨_, rfl⟩
    have o2 : D.one (.mapr b) = true := rfl
    have hcK : D.cells K0 = [K0] := by rw [hK0]; rfl
    have hcm : D.cells (.mapr b) = [.mapr b] := rfl
    have hca : ∀ cs, D.cells (.agg cs) = cs := fun _ => rfl
    have n1 : (b = h2.next + 6) = False := by simp; omega
    have n2 : (kb = h2.next + 6) = False := by simp; omega
    have fc := fun (H : Heap) (g : H.get b = some (.map (mapK S fun _ => true))) => fails_call l h0 S (fun _ => true) g (n := m) (by omega)
    rw [hSd, only_all l, ← hSd] at fc
    have hce : conE l = if badF l = false then 4 else 0 := by unfold conE; rw [if_neg (by omega)]
    have hlf : leftF l = S.filter (inB S (foldB l S S.length)) := by unfold leftF; rw [← hSd]
    obtain ⟨H4, hH4⟩ : ∃ H, H = ((((h3.set (h2.next + 6) (some (.cells 105 [.val (.slice none 0 0), .val (.map none)]))).set (h2.next + 6) (some (.cells 105 [clsD l, .mapr b]))).bump 36)) := ⟨_, rfl⟩
    have g46 : H4.get (h2.next + 6) = some (.cells 105 [clsD l, .mapr b]) := by rw [hH4]; simp
    have g4b : H4.get b = some (.map (mapK S fun _ => true)) := by rw [hH4]; simp [n1, gb3]
    have g4k : H4.get kb = some (.cells 3 ((S ++ Z).map D.int)) := by
      rw [hH4]
      simp [n2, gk3]
    have hf4 : H4.Fr := by
      rw [hH4]
      repeat' first | exact f3 | apply Heap.Fr.bump | apply Heap.Fr.set
      all_goals first | omega | (simp <;> omega)
    have hn4 : H4.next = h3.next + 36 := by rw [hH4]; simp
    rw [hce, hlf]
    rw [← hK0] at ck c2 oC fc hH4 ⊢
    cases hbl : badF l with
    | false =>
      rw [hbl] at fc
      simp [k37_eq, Env.v_ini, ck, ← hH1, c2, c3, oC, o2, hr3, hcK, hcm, hca, n1, gb3, fc]
      refine ⟨_, _, ⟨rfl, rfl⟩, rfl, ?_, by simp; omega⟩
      rw [← hH4]; exact hf4.bump _
    | true =>
      rw [hbl] at fc
      have ct := fun y v5 v6 => conf_tail l h0 hSn (by omega) (C := (S ++ Z).map D.int) (by simp) (by rw [List.map_append, List.take_left' (by simp)]) (c0 := l.length) hSl g46 g4b g4k (by omega) (by omega) (by omega) hf4 (by omega) (by omega) (by omega) y v5 v6 (n := m) (by omega)
      have g46K : H4.get (h2.next + 6) = some (.cells 105 [K0, .mapr b]) := by rw [hK0]; exact g46
      have key : ∀ (y : Env 36), y.v 5 = .slr kb 0 S.length 1 (some l.length) → y.v 6 = .ptr (h2.next + 6) 0 → ∃ d h', endH (rc pg m) [(.tmp 2, false, 0), (.tmp 3, false, 0)] (k37t.ev ⟨pg, 36, none⟩ (rc pg m) ⟨y.l, H4, []⟩) = some (.ret (.tup [d, D.int 0]), h') ∧ (∃ kb, (∃ x, d = .slr kb 0 (S.filter (inB S (foldB l S S.length))).length 1 x) ∧ InF h' kb (S.filter (inB S (foldB l S S.length)))) ∧ h'.Fr ∧ h.next ≤ h'.next := fun y v5 v6 => by
        obtain ⟨h', e1, q1, q2, q3⟩ := ct y v5 v6
        exact ⟨_, h', e1, ⟨kb, ⟨_, rfl⟩, q1⟩, q2, by omega⟩
      simp [k37_eq, Env.v_ini, ck, ← hH1, c2, c3, oC, o2, hr3, hcK, hcm, hca, fc, ← hH4, g46K, g4b]
      refine key _ ?_ ?_
      · simp
      · simp
  · have h0' : (chkF l != 0) = true := by simpa using h0
    have hce : conE l = chkF l := by unfold conE; rw [if_pos h0]
    simp [-bne_iff_ne, k37_eq, Env.v_ini, ck, h0', hce, h0]
    exact ⟨_, _, ⟨rfl, rfl⟩, rfl, by repeat' first | exact hf | apply Heap.Fr.bump, by simp; omega⟩
end Go.Proofs.YtppfjkebamegnaaDoor
