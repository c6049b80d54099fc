/- The document's sets: Union, Common, Less. -/
import Derived.Test.YtlddgfkdicgbeaaGreatDoorRi
namespace Go.Proofs.YtlddgfkdicgbeaaGreatDoor
open Go Go.Em
set_option maxRecDepth 100000
theorem nf_len : ∀ (L : List Rn) (lo : Int), Runs.NF L → (∀ s, s ∈ L → lo ≤ s.1) → lo ≤ 1000000002 → 2 * (L.length : Int) ≤ 1000000002 - lo
  | [], lo, _, _, h => by simp; omega
  | s :: L, lo, hn, h, _ => by
    obtain ⟨ho, hn', hp⟩ := Runs.nf_cons.1 hn
    have h1 := h s List.mem_cons_self
    obtain ⟨o1, o2, o3⟩ := ho
    have hF : Runs.FAR = 1000000000 := rfl
    have := nf_len L (s.2 + 2) hn' hp (by omega)
    rw [List.length_cons]
    omega
theorem nf_len' {L : List Rn} (h : Runs.NF L) : L.length ≤ 1000000001 := by
  have := nf_len L (-1000000000) h (fun s hs => (h.1 s hs).1) (by omega)
  omega
def UnI (O l : List Rn) (k : Nat) (s : St) : Prop := ∃ (x : Env 23) (h : Heap) (i : Nat) (d : D), s = ⟨x.l, h, []⟩ ∧ i + k = l.length ∧ x.v 1 = rnsD l ∧ x.v 5 = d ∧ x.v 6 = D.int i ∧ TN d (Runs.addL O (l.take i))
set_option maxHeartbeats 8000000 in
theorem un_round (O l : List Rn) (hO : Runs.NF O) (hl : l.length ≤ 4000000) : ∀ n, 2000000100 ≤ n → ∀ k s, UnI O l k s → Res (k13l0.ev ⟨pg, 23, none⟩ (rc pg n) s) (Rnd (UnI O l) (fun x s => x = .exit 0 ∧ UnI O l 0 s) k) := by
  rintro n hn k s ⟨x, h, i, d, rfl, hik, v0, v3, v4, hd⟩
  simp only [rnsD] at v0
  by_cases hi : i < l.length
  · obtain ⟨r, hr⟩ : ∃ r, l[i] = r := ⟨_, rfl⟩
    have hsn := addL_snoc O (l.take i) r
    rw [← hr, ← take_snoc hi, hr] at hsn
    have w1 : IntKind.i64.wrap ((i : Int) + 1) = (i : Int) + 1 := wrap_i64 (by omega) (by omega)
    have c1 := fun h => call_of (h := h) (pg := pg) (f := 31) rfl (show D.canonL [.agg [D.int r.1, D.int r.2]] = true by simp) (clip_run r (n := n) (by omega))
    obtain ⟨N1, _⟩ := Runs.addL_ok (l := l.take i) hO
    have hlen := nf_len' N1
    obtain ⟨f1, f2⟩ := Runs.clipR_far r
    have c2 := put_call hd (by omega) N1.1 f1 f2 (n := n) (by omega)
    simp [k13l0, v0, v3, v4, hi, hr, w1, D.cells, rnD, rnC, c1, c2]
    exact ⟨k - 1, by omega, _, _, i + 1, _, rfl, by omega, by simp [v0, rnsD], rfl, by simp, .inl (by rw [hsn]; simp)⟩
  · simp [k13l0, v0, v4, hi]
    exact ⟨_, _, i, d, rfl, by omega, by simp [v0, rnsD], by simp [v3], by simp [v4], hd⟩
set_option maxHeartbeats 4000000 in
theorem runion_run (a b : List Rn) (ha : a.length ≤ 4000000) (hb : b.length ≤ 4000000) {n : Nat} (hn : 2004000200 ≤ n) : pureCall (rc pg n) 13 [rnsD a, rnsD b] = some (.ret (rnsD (Runs.runion a b))) := by
  obtain ⟨m, rfl, e⟩ := body (pg := pg) (f := 13) (args := [rnsD a, rnsD b]) (show 0 < n by omega) rfl rfl
  rw [e]
  have c := fun h => call_of (h := h) (pg := pg) (f := 11) rfl (rns_can a) (rnorm_run a ha (n := m) (by omega))
  simp only [rnsD] at c
  simp [k13, Env.v_ini, rnsD, ev_loop, c]
  refine Res.endsAfter (lp_rule 2000000100 (UnI (Runs.rnorm a) b) _ (un_round (Runs.rnorm a) b (Runs.rnorm_ok a).1 hb) b.length m _ (by omega) ⟨_, _, 0, rnsD (Runs.rnorm a), rfl, by omega, by simp [Env.v_ini, rnsD], by simp [rnsD], by simp, .inl rfl⟩) ?_
  rintro x s ⟨rfl, x, h, i, d, rfl, hi, v0, v3, v4, hd⟩
  obtain rfl : i = b.length := by omega
  rw [List.take_length] at hd
  obtain ⟨ks, hz⟩ := hd.frz (h.bump 23)
  have e1 : Runs.addL (Runs.rnorm a) b = Runs.runion a b := rfl
  rw [e1] at hz
  simp only [rnsD] at hz ⊢
  simp [v3]
  rw [hz]
  exact ⟨_, rfl⟩
def dN (c : Cfg) (R : Rc) (base : Nat) (e : List D) (ts : List HK) (pn : Bool) (f : FuncId) (args : List D) (h : Heap) : Option (D × Heap) := if c.pg.sh f = true then none else match each (Go.Em.frz h depth) args with
  | some (bs, ks) => match pureA R f args bs with
    | some o => if ((ks.isEmpty || o.d.flat || mayKill base e ts [] pn ks) && (o.isPan == pn)) = true then some (o.d, thaw ks o.d h) else none
    | none => none
  | none => none
theorem dcore_n (c : Cfg) (R : Rc) (base : Nat) (d : Option Nat) (f : FuncId) (args : List X) (ts : List HK) (wt : Nat) (pn : Bool) (e : List D) (h : Heap) : dcore c R base ⟨⟨none, d, .inr (.fn f args)⟩, some ts, [], wt, pn⟩ e h = dN c R base e ts pn f (args.map (rd c.pg.gl e)) h := by
  have hk : h.kill (hids base e []) = h := by rw [hids_nil, kill_nil]
  unfold dcore dN
  simp only [G.want, hk]
  rfl
theorem dN_put {L : List Rn} {r : Rn} {d : D} (g : TN d L) (hL : L.length ≤ 2000000000) (hok : ∀ s, s ∈ L → Runs.okR s) (r1 : -Runs.FAR ≤ r.1) (r2 : r.2 ≤ Runs.FAR) {n : Nat} (hn : L.length + 10 ≤ n) (N : Nat) (base : Nat) (e : List D) (ts : List HK) (h : Heap) : dN ⟨pg, N, none⟩ (rc pg n) base e ts false 30 [d, .agg [D.int r.1, D.int r.2]] h = some (rnsD (Runs.putF L r), h) := by
  have x := put_run hL hok r1 r2 hn
  have ha : ∃ bs, each (Go.Em.frz h depth) [d, .agg [D.int r.1, D.int r.2]] = some (bs, []) ∧ bs = [rnsD L, .agg [D.int r.1, D.int r.2]] := by
    rcases g with rfl | ⟨rfl, rfl⟩
    · refine ⟨_, each_canon h 23 _ ?_, rfl⟩
      have := rn_can L
      simp [rnsD, this]
    · exact ⟨_, rfl, rfl⟩
  obtain ⟨bs, ha, rfl⟩ := ha
  unfold dN
  simp only [show pg.sh 30 = false from rfl, ha, pureA, pureS, x, orS, Bool.false_eq_true, if_false, List.isEmpty_nil, Bool.true_or, Bool.true_and, Out.isPan, Out.d, beq_self_eq_true, if_true]
  rfl
def CiI (A B : List Rn) (r : Rn) (O : List Rn) (x0 : Env 52) (k : Nat) (s : St) : Prop := ∃ (x : Env 52) (h : Heap) (i : Nat) (d : D), s = ⟨x.l, h, []⟩ ∧ i + k = B.length ∧ (∀ q, q < 9 → q ≠ 7 → x.v q = x0.v q) ∧ x.v 7 = d ∧ x.v 9 = D.int i ∧ TN d (Runs.rowC O r (B.take i))
theorem rowC_snoc (O l : List Rn) (r s : Rn) : Runs.rowC O r (l ++ [s]) = Runs.putF (Runs.rowC O r l) (Runs.meetR r s) := by unfold Runs.rowC; rw [List.foldl_append]; rfl
set_option maxHeartbeats 8000000 in
theorem ci_round (A B : List Rn) (a : Nat) (r : Rn) (O : List Rn) (hO : Runs.NF O) (hA : A.length ≤ 10000000) (hB : B.length ≤ 10000000) (haA : a < A.length) (hr : A[a] = r) (ho : Runs.okR r) (hBo : ∀ s, s ∈ B → Runs.okR s) (x0 : Env 52) (z5 : x0.v 5 = rnsD A) (z6 : x0.v 6 = rnsD B) (z8 : x0.v 8 = D.int a) : ∀ n, 2000000100 ≤ n → ∀ k s, CiI A B r O x0 k s → Res (k15l0.ev ⟨pg, 52, none⟩ (rc pg n) s) (Rnd (CiI A B r O x0) (fun x s => x = .exit 2 ∧ CiI A B r O x0 0 s) k) := by
  rintro n hn k s ⟨x, h, i, d, rfl, hik, sm, v7, v9, hd⟩
  have v5 := (sm 5 (by omega) (by omega)).trans z5
  have v6 := (sm 6 (by omega) (by omega)).trans z6
  have v8 := (sm 8 (by omega) (by omega)).trans z8
  simp only [rnsD] at v5 v6
  have ne : ∀ {q : Nat}, q < 9 → ∀ t, 9 ≤ t → (t = q) = False := fun hq t ht => by simp; omega
  by_cases hi : i < B.length
  · obtain ⟨s, hs⟩ : ∃ s, B[i] = s := ⟨_, rfl⟩
    have hso : Runs.okR s := hs ▸ hBo _ (List.getElem_mem hi)
    have hsn := rowC_snoc O (B.take i) r s
    rw [← hs, ← take_snoc hi, hs] at hsn
    have w1 : IntKind.i64.wrap ((i : Int) + 1) = (i : Int) + 1 := wrap_i64 (by omega) (by omega)
    obtain ⟨N1, _⟩ := Runs.rowC_ok ho (y := B.take i) hO (fun t ht => hBo t (List.mem_of_mem_take ht))
    have hlen := nf_len' N1
    obtain ⟨o1, o2, o3⟩ := hso
    obtain ⟨p1, p2, p3⟩ := ho
    have e1 : (Runs.meetR r s).1 = max r.1 s.1 := rfl
    have e2 : (Runs.meetR r s).2 = min r.2 s.2 := rfl
    have c2 := dN_put (r := Runs.meetR r s) hd (by omega) N1.1 (by rw [e1]; omega) (by rw [e2]; omega) (n := n) (by omega)
    rw [e1, e2] at c2
    simp [k15l0, v5, v6, v7, v8, v9, hi, haA, hr, hs, w1, D.cells, D.one, rnD, rnC, dcore_n, c2]
    refine ⟨k - 1, by omega, _, _, i + 1, _, rfl, by omega, fun q hq hq' => by simp [ne hq, Ne.symm hq', sm q hq hq'], rfl, by simp, .inl (by rw [hsn]; simp)⟩
  · simp [k15l0, v6, v9, hi]
    exact ⟨_, _, i, d, rfl, by omega, fun q hq hq' => by simp [ne hq, sm q hq hq'], by simp [v7], by simp [v9], hd⟩
end Go.Proofs.YtlddgfkdicgbeaaGreatDoor
/- The document's sets: Common, Less. -/
namespace Go.Proofs.YtlddgfkdicgbeaaGreatDoor
open Go Go.Em
set_option maxRecDepth 100000
def outC (A B : List Rn) (i : Nat) : List Rn := (A.take i).foldl (fun o r => Runs.rowC o r B) []
theorem outC_snoc (A B : List Rn) {i : Nat} (hi : i < A.length) : outC A B (i + 1) = Runs.rowC (outC A B i) A[i] B := by unfold outC; rw [take_snoc hi, List.foldl_append]; rfl
theorem outC_ok (A B : List Rn) (hA : ∀ s, s ∈ A → Runs.okR s) (hB : ∀ s, s ∈ B → Runs.okR s) (i : Nat) : Runs.NF (outC A B i) := (Runs.allC_ok hB (x := A.take i) [] Runs.nf_nil fun s hs => hA s (List.mem_of_mem_take hs)).1
def CoI (A B : List Rn) (k : Nat) (s : St) : Prop := ∃ (x : Env 52) (h : Heap) (i : Nat) (d : D), s = ⟨x.l, h, []⟩ ∧ i + k = A.length ∧ x.v 5 = rnsD A ∧ x.v 6 = rnsD B ∧ x.v 7 = d ∧ x.v 8 = D.int i ∧ TN d (outC A B i)
set_option maxHeartbeats 8000000 in
theorem co_round (A B : List Rn) (hA : A.length ≤ 10000000) (hB : B.length ≤ 10000000) (hAo : ∀ s, s ∈ A → Runs.okR s) (hBo : ∀ s, s ∈ B → Runs.okR s) : ∀ n, 2010000200 ≤ n → ∀ k s, CoI A B k s → Res (k15l1.ev ⟨pg, 52, none⟩ (rc pg n) s) (Rnd (CoI A B) (fun x s => x = .exit 0 ∧ CoI A B 0 s) k) := by
  rintro n hn k s ⟨x, h, i, d, rfl, hik, v5, v6, v7, v8, hd⟩
  by_cases hi : i < A.length
  · obtain ⟨r, hr⟩ : ∃ r, A[i] = r := ⟨_, rfl⟩
    have hro : Runs.okR r := hr ▸ hAo _ (List.getElem_mem hi)
    have hsn := outC_snoc A B hi
    rw [hr] at hsn
    have w1 : IntKind.i64.wrap ((i : Int) + 1) = (i : Int) + 1 := wrap_i64 (by omega) (by omega)
    have hN := outC_ok A B hAo hBo i
    obtain ⟨O, hO⟩ : ∃ O, O = outC A B i := ⟨_, rfl⟩
    rw [← hO] at hd hsn hN
    simp only [rnsD] at v5
    simp [k15l1, v5, v8, hi, ev_loop]
    obtain ⟨x0, hx0⟩ : ∃ x0 : Env 52, x0 = ((((x.upd 14 (D.int i)).upd 15 (.sl false (A.map rnD))).upd 16 (D.int A.length)).upd 17 (D.bool true)).upd 9 (D.int 0) := ⟨_, rfl⟩
    refine Res.qb (lp_rule 2000000100 (CiI A B r O x0) _ (ci_round A B i r O hN hA hB hi hr hro hBo x0 (by simp [hx0, v5, rnsD]) (by simp [hx0, v6]) (by simp [hx0, v8])) B.length n _ (by omega) ⟨x0, _, 0, d, by rw [hx0], by omega, fun _ _ _ => rfl, by simp [hx0, v7], by simp [hx0], hd⟩) ?_
    rintro x1 s1 ⟨rfl, y, h', j, d', rfl, hj, sm, w7, w9, hd'⟩
    obtain rfl : j = B.length := by omega
    rw [List.take_length, ← hsn] at hd'
    have y5 := sm 5 (by omega) (by omega)
    have y6 := sm 6 (by omega) (by omega)
    have y8 := sm 8 (by omega) (by omega)
    simp [hx0, v5, v6, v8] at y5 y6 y8
    simp [y8, w1]
    exact ⟨k - 1, by omega, _, _, i + 1, d', rfl, by omega, by simp [y5, rnsD], by simp [y6], by simp [w7], by simp, hd'⟩
  · simp only [rnsD] at v5
    simp [k15l1, v5, v8, hi]
    exact ⟨_, _, i, d, rfl, by omega, by simp [v5, rnsD], by simp [v6], by simp [v7], by simp [v8], hd⟩
set_option maxHeartbeats 4000000 in
theorem rcommon_run (a b : List Rn) (ha : a.length ≤ 4000000) (hb : b.length ≤ 4000000) {n : Nat} (hn : 2020000300 ≤ n) : pureCall (rc pg n) 15 [rnsD a, rnsD b] = some (.ret (rnsD (Runs.rcommon a b))) := by
  obtain ⟨m, rfl, e⟩ := body (pg := pg) (f := 15) (args := [rnsD a, rnsD b]) (show 0 < n by omega) rfl rfl
  rw [e]
  have ca := fun h => call_of (h := h) (pg := pg) (f := 11) rfl (rns_can a) (rnorm_run a ha (n := m) (by omega))
  have cb := fun h => call_of (h := h) (pg := pg) (f := 11) rfl (rns_can b) (rnorm_run b hb (n := m) (by omega))
  have la := addL_len a []
  have lb := addL_len b []
  have la' : (Runs.rnorm a).length ≤ a.length := by show (Runs.addL [] a).length ≤ _; simpa using la
  have lb' : (Runs.rnorm b).length ≤ b.length := by show (Runs.addL [] b).length ≤ _; simpa using lb
  simp only [rnsD] at ca cb
  simp [k15, Env.v_ini, rnsD, ev_loop, ca, cb]
  refine Res.endsAfter (lp_rule 2010000200 (CoI (Runs.rnorm a) (Runs.rnorm b)) _ (co_round (Runs.rnorm a) (Runs.rnorm b) (by omega) (by omega) (Runs.rnorm_ok a).1.1 (Runs.rnorm_ok b).1.1) (Runs.rnorm a).length m _ (by omega) ⟨_, _, 0, .val (.slice none 0 0), rfl, by omega, by simp [rnsD], by simp [rnsD], by simp, by simp, .inr ⟨rfl, rfl⟩⟩) ?_
  rintro x s ⟨rfl, x, h, i, d, rfl, hi, v5, v6, v7, v8, hd⟩
  obtain rfl : i = (Runs.rnorm a).length := by omega
  have e1 : outC (Runs.rnorm a) (Runs.rnorm b) (Runs.rnorm a).length = Runs.rcommon a b := by unfold outC; rw [List.take_length]; rfl
  rw [e1] at hd
  obtain ⟨ks, hz⟩ := hd.frz (h.bump 52)
  simp only [rnsD] at hz ⊢
  simp [v7]
  rw [hz]
  exact ⟨_, rfl⟩
def LeI (Y : List Rn) (a : D) (T : List Rn) (k : Nat) (s : St) : Prop := ∃ (x : Env 53) (h : Heap) (i : Nat) (d : D) (O : List Rn) (fr : Int), s = ⟨x.l, h, []⟩ ∧ i + k = Y.length ∧ x.v 0 = a ∧ x.v 5 = rnsD Y ∧ x.v 6 = d ∧ x.v 7 = D.int fr ∧ x.v 8 = D.int i ∧ GR h d O ∧ h.Fr ∧ O.length ≤ i ∧ -1000000000 ≤ fr ∧ fr ≤ 1000000001 ∧ O ++ Runs.restG (Y.drop i) fr = T
set_option maxHeartbeats 8000000 in
theorem le_round (Y : List Rn) (hY : Y.length ≤ 10000000) (hok : ∀ s, s ∈ Y → Runs.okR s) (a : D) (T : List Rn) : ∀ n, 1 ≤ n → ∀ k s, LeI Y a T k s → Res (k17l0.ev ⟨pg, 53, none⟩ (rc pg n) s) (Rnd (LeI Y a T) (fun x s => x = .exit 0 ∧ LeI Y a T 0 s) k) := by
  rintro n hn k s ⟨x, h, i, d, O, fr, rfl, hik, v0, v5, v6, v7, v8, hd, hf, hOl, hf1, hf2, hT⟩
  simp only [rnsD] at v5
  by_cases hi : i < Y.length
  · obtain ⟨s, hs⟩ : ∃ s, Y[i] = s := ⟨_, rfl⟩
    have hso : Runs.okR s := hs ▸ hok _ (List.getElem_mem hi)
    obtain ⟨o1, o2, o3⟩ := hso
    have hF : Runs.FAR = 1000000000 := rfl
    rw [List.drop_eq_getElem_cons hi, hs, Runs.restG] at hT
    have w1 : IntKind.i64.wrap ((i : Int) + 1) = (i : Int) + 1 := wrap_i64 (by omega) (by omega)
    have w2 : IntKind.i64.wrap (s.2 + 1) = s.2 + 1 := wrap_i64 (by omega) (by omega)
    have w3 : IntKind.i64.wrap (s.1 - 1) = s.1 - 1 := wrap_i64 (by omega) (by omega)
    have hfr : ∀ j, h.raw (h.next + j) = none := fun j => hf _ (by omega)
    by_cases c1 : fr < s.1
    · rw [if_pos c1] at hT
      have hT' : (O ++ [(fr, s.1 - 1)]) ++ Runs.restG (Y.drop (i + 1)) (s.2 + 1) = T := by rw [← hT]; simp
      rcases hd with ⟨hO0, rfl⟩ | ⟨kk, rfl, hg, hkk⟩
      · subst hO0
        simp [k17l0, v5, v6, v7, v8, hi, hs, w1, w2, w3, D.cells, D.one, hfr, Nat.add_assoc, rnD, rnC, c1, zerosD, apK_some, room, maxLen, List.range_succ]
        refine ⟨k - 1, by omega, _, _, i + 1, .slr (h.next + 141) 0 1 2 none, [(fr, s.1 - 1)], s.2 + 1, rfl, by omega, by simp [v0], by simp [v5, rnsD], by simp, by simp, by simp, .inr ⟨h.next + 141, by simp, by simp [rnC], by simp <;> omega⟩, ?_, by simp <;> omega, by omega, by omega, by simpa using hT'⟩
        repeat' first | exact hf | apply Heap.Fr.bump | apply Heap.Fr.set
        all_goals (simp <;> omega)
      · have ne1 : ∀ j, (h.next + j = kk) = False := fun j => by simp; omega
        have ne2 : ∀ j, (kk = h.next + j) = False := fun j => by simp; omega
        have happ := fun t hh news => appS_none (t := t) (et := 40) (sz := 2) (bytes := 16) (h := hh) (m := 1) (news := news) (k := kk) (n := O.length) (cs := O.flatMap rnC) (cells_rn O) (by omega) (by unfold room; omega) (by unfold maxLen; omega)
        simp [k17l0, v5, v6, v7, v8, hi, hs, w1, w2, w3, D.cells, D.one, hfr, Nat.add_assoc, rnD, rnC, c1, zerosD, apK_some, List.range_succ, hg, ne1, ne2, happ]
        refine ⟨k - 1, by omega, _, _, i + 1, .slr (h.next + 141) 0 (O.length + 1) 2 none, O ++ [(fr, s.1 - 1)], s.2 + 1, rfl, by omega, by simp [v0], by simp [v5, rnsD], by simp, by simp, by simp, .inr ⟨h.next + 141, by simp, by simp [rnC], by simp <;> omega⟩, ?_, by simp <;> omega, by omega, by omega, by simpa using hT'⟩
        repeat' first | exact hf | apply Heap.Fr.bump | apply Heap.Fr.set
        all_goals (simp <;> omega)
    · rw [if_neg c1] at hT
      simp [k17l0, v5, v7, v8, hi, hs, w1, w2, D.cells, rnD, rnC, c1]
      refine ⟨k - 1, by omega, _, _, i + 1, d, O, s.2 + 1, rfl, by omega, by simp [v0], by simp [v5, rnsD], by simp [v6], by simp, by simp, ?_, ?_, by omega, by omega, by omega, hT⟩
      · exact hd.keep (by simp <;> omega) (by simp)
      · repeat' first | exact hf | apply Heap.Fr.bump
  · simp [k17l0, v5, v8, hi]
    exact ⟨_, _, i, d, O, fr, rfl, by omega, by simp [v0], by simp [v5, rnsD], by simp [v6], by simp [v7], by simp [v8], hd.bump _, hf.bump _, hOl, hf1, hf2, hT⟩
theorem restG_len : ∀ (Y : List Rn) (fr : Int), (Runs.restG Y fr).length ≤ Y.length + 1
  | [], fr => by rw [Runs.restG]; split <;> simp
  | s :: Y, fr => by
    have := restG_len Y (s.2 + 1)
    rw [Runs.restG, List.length_cons]
    split
    · rw [List.length_cons]; omega
    · omega
theorem commonG_call {a B : List Rn} {d : D} {h : Heap} (g : GR h d B) (ha : a.length ≤ 4000000) (hb : B.length ≤ 4000000) (hf : h.Fr) {n : Nat} (hn : 2020000300 ≤ n) : ∃ h', call pg (rc pg n) 15 [rnsD a, d] h = some (.ret (rnsD (Runs.rcommon a B)), h') := by
  have x := rcommon_run a B ha hb hn
  obtain ⟨ks, h1, _⟩ := ArgR_of (.inl rfl : AR h (rnsD a) a) (.inr g : AR h d B) h (Heap.Gr.refl h)
  exact call_frzk (pg := pg) (f := 15) rfl h1 x
set_option maxHeartbeats 8000000 in
theorem rless_run (a b : List Rn) (ha : a.length ≤ 2000000) (hb : b.length ≤ 2000000) {n : Nat} (hn : 2020000400 ≤ n) : pureCall (rc pg n) 17 [rnsD a, rnsD b] = some (.ret (rnsD (Runs.rless a b))) := by
  obtain ⟨m, rfl, e⟩ := body (pg := pg) (f := 17) (args := [rnsD a, rnsD b]) (show 0 < n by omega) rfl rfl
  rw [e]
  have cb := fun h => call_of (h := h) (pg := pg) (f := 11) rfl (rns_can b) (rnorm_run b (by omega) (n := m) (by omega))
  have lb := addL_len b []
  have lb' : (Runs.rnorm b).length ≤ b.length := by show (Runs.addL [] b).length ≤ _; simpa using lb
  have lr := restG_len (Runs.rnorm b) (-1000000000)
  have hu : Runs.rless a b = Runs.rcommon a (Runs.restG (Runs.rnorm b) (-1000000000)) := rfl
  rw [hu]
  simp only [rnsD] at cb
  simp [k17, Env.v_ini, rnsD, ev_loop, cb]
  obtain ⟨T, hT0⟩ : ∃ T, T = Runs.restG (Runs.rnorm b) (-1000000000) := ⟨_, rfl⟩
  rw [← hT0] at lr ⊢
  refine Res.endsAfter (lp_rule 1 (LeI (Runs.rnorm b) (rnsD a) T) _ (le_round (Runs.rnorm b) (by omega) (Runs.rnorm_ok b).1.1 (rnsD a) T) (Runs.rnorm b).length m _ (by omega) ⟨_, _, 0, .val (.slice none 0 0), [], -1000000000, rfl, by omega, by simp [Env.v_ini, rnsD], by simp [rnsD], by simp, by simp, by simp, .inl ⟨rfl, rfl⟩, ?_, by simp, by omega, by omega, by simp [hT0]⟩) ?_
  · repeat' first | exact Heap.Fr.empty | apply Heap.Fr.bump | apply Heap.Fr.set
  rintro x s ⟨rfl, x, h, i, d, O, fr, rfl, hi, v0, v5, v6, v7, v8, hd, hf, hOl, hf1, hf2, hT⟩
  obtain rfl : i = (Runs.rnorm b).length := by omega
  rw [List.drop_length, Runs.restG] at hT
  have hfr : ∀ j, h.raw (h.next + j) = none := fun j => hf _ (by omega)
  by_cases c1 : fr ≤ 1000000000
  · rw [if_pos c1] at hT
    have fin : ∀ (H : Heap) (dd : D), GR H dd T → H.Fr → ∃ h', call pg (rc pg m) 15 [rnsD a, dd] H = some (.ret (rnsD (Runs.rcommon a T)), h') := fun H dd g f => commonG_call g (by omega) (by omega) f (by omega)
    simp only [rnsD] at fin v0
    rcases hd with ⟨hO0, rfl⟩ | ⟨kk, rfl, hg, hkk⟩
    · subst hO0
      rw [List.nil_append] at hT
      obtain ⟨H, hH⟩ : ∃ H, H = ((((h.bump 53).bump 53).set (h.next + 100) (some (Blk.cells 40 [D.int fr, D.int 1000000000]))).set (h.next + 101) (some (Blk.cells 40 [D.int fr, D.int 1000000000]))).bump 53 := ⟨_, rfl⟩
      obtain ⟨h', hc⟩ := fin H (.slr (h.next + 101) 0 1 2 none) (.inr ⟨_, by rw [← hT]; rfl, by rw [hH, ← hT]; simp [rnC], by rw [hH]; simp <;> omega⟩) (by
        rw [hH]
        repeat' first | exact hf | apply Heap.Fr.bump | apply Heap.Fr.set
        all_goals (simp <;> omega))
      simp [v0, v6, v7, c1, D.cells, D.one, hfr, Nat.add_assoc, zerosD, apK_some, room, maxLen, List.range_succ, ← hH, hc]
      rw [each_canon _ 22 _ (rn_can _)]
      exact ⟨_, rfl⟩
    · have ne1 : ∀ j, (h.next + j = kk) = False := fun j => by simp; omega
      have ne2 : ∀ j, (kk = h.next + j) = False := fun j => by simp; omega
      have happ := fun t hh news => appS_none (t := t) (et := 40) (sz := 2) (bytes := 16) (h := hh) (m := 1) (news := news) (k := kk) (n := O.length) (cs := O.flatMap rnC) (cells_rn O) (by omega) (by unfold room; omega) (by unfold maxLen; omega)
      obtain ⟨H, hH⟩ : ∃ H, H = (((((h.bump 53).bump 53).set (h.next + 100) (some (Blk.cells 40 [D.int fr, D.int 1000000000]))).set kk none).set (h.next + 101) (some (Blk.cells 40 (O.flatMap rnC ++ [D.int fr, D.int 1000000000])))).bump 53 := ⟨_, rfl⟩
      obtain ⟨h', hc⟩ := fin H (.slr (h.next + 101) 0 (O.length + 1) 2 none) (.inr ⟨h.next + 101, by rw [← hT]; simp, by rw [hH, ← hT]; simp [rnC], by rw [hH]; simp <;> omega⟩) (by
        rw [hH]
        repeat' first | exact hf | apply Heap.Fr.bump | apply Heap.Fr.set
        all_goals (simp <;> omega))
      simp [v0, v6, v7, c1, D.cells, D.one, hfr, Nat.add_assoc, zerosD, apK_some, List.range_succ, hg, ne1, ne2, happ, ← hH, hc]
      rw [each_canon _ 22 _ (rn_can _)]
      exact ⟨_, rfl⟩
  · rw [if_neg c1, List.append_nil] at hT
    subst hT
    obtain ⟨H, hH⟩ : ∃ H, H = (h.bump 53).bump 53 := ⟨_, rfl⟩
    obtain ⟨h', hc⟩ := commonG_call (a := a) (B := O) (d := d) (h := H) (by rw [hH]; exact (hd.bump _).bump _) (by omega) (by omega) (by rw [hH]; exact (hf.bump _).bump _) (n := m) (by omega)
    simp only [rnsD] at hc v0
    simp [v0, v6, v7, c1, ← hH, hc]
    rw [each_canon _ 22 _ (rn_can _)]
    exact ⟨_, rfl⟩
end Go.Proofs.YtlddgfkdicgbeaaGreatDoor
