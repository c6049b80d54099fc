/- Grow, by the document: from its rows to its answer. -/
import Derived.Test.YtlkpikdfbodhoaaDoorNgi
import Derived.Test.YtlkpikdfbodhoaaDoorPl
import Derived.Test.YtlkpikdfbodhoaaDoorBnd
namespace Go.Proofs.YtlkpikdfbodhoaaDoor
open Go Go.Em Go.Em.Net
set_option maxRecDepth 100000
theorem wE_ext {M M' : List Int} {C : Mx} {i j : Nat} (hi : i < M'.length) (hj : j < M'.length) : wE M M' (encM C) i j = encM (Ext M'.length (rpF M M') C) i j := by
  unfold wE encM Net.Ext rpF
  have hij : i < M'.length ∧ j < M'.length := ⟨hi, hj⟩
  simp only [List.getD, List.getElem?_eq_getElem hi, List.getElem?_eq_getElem hj, Option.getD_some]
  by_cases h : i = j
  · rw [if_pos h, if_pos hij, if_pos h]; rfl
  · rw [if_neg h, if_pos hij, if_neg h]
    by_cases h1 : M'[i] ∈ M
    · by_cases h2 : M'[j] ∈ M
      · rw [if_pos ⟨h1, h2⟩, if_pos h1, if_pos h2]
      · rw [if_neg (fun k => h2 k.2), if_pos h1, if_neg h2]; rfl
    · rw [if_neg (fun k => h1 k.1), if_neg h1]; rfl
set_option maxHeartbeats 16000000 in
theorem rg_u {M : List Int} {C : Mx} (cl : Cl M.length C) (wd : ∀ i j z, C i j = some z → -40000000 ≤ z ∧ z ≤ 40000000) {c : Clm} (hc : okF c = true) (k6 : (nM M c).length ≤ 64) {mb b6 : Nat} {ks : List Nat} {h : Heap} (t : GwH (nM M c) (encM (nW M C c)) mb b6 ks h) (h6 : b6 < h.next) (n46 : 4 < b6) (g3 : h.get 3 = some (.cells 42 (clC c))) (y : Env 183) (v3 : y.v 3 = .ptr 3 0) (v4 : y.v 4 = .ptr 4 0) (v6 : y.v 6 = .ptr b6 0) {n : Nat} (hn : 1000 ≤ n) :
    endK (rc pg n) [(.cell 4 40, true, 2), (.tmp 5, false, 0)] (k20u.ev ⟨pg, 183, none⟩ (rc pg n) ⟨y.l, h, []⟩) = some (.ret (nRes M C c)) := by
  have hyr := ok_years hc
  have hm := nm_mem M c
  have pa : posF (nM M c) c.a = nP M c := pos_of hm.1
  have pb : posF (nM M c) c.b = nQ M c := pos_of hm.2
  have hp : nP M c < (nM M c).length := (place_at hm.1).1
  have hq : nQ M c < (nM M c).length := (place_at hm.2).1
  have hW := nw_wide (M := M) (C := C) (c := c) wd
  have hne : nP M c ≠ nQ M c := fun e => ok_differ hc (by
    have e1 := (place_at hm.1).2
    have e2 := (place_at hm.2).2
    unfold nP nQ at e
    simp only [e] at e1
    exact e1.symm.trans e2)
  have cW : Cl (nM M c).length (nW M C c) := cl.ext
  have hWb : Bt (nW M C c) := fun i j z hz => by have := hW i j z hz; omega
  obtain ⟨e1, bt1⟩ := low_encS hWb (nP M c) (nQ M c) (e := c.hi) (by omega) (by omega)
  obtain ⟨e2, bt2⟩ := low_encS bt1 (nQ M c) (nP M c) (e := -c.lo) (by omega) (by omega)
  rw [← lowM_O (nW M C c) hne] at e2
  have hc1 := ints_canonL (nM M c)
  have f1 := fun h => call_of (h := h) (pg := pg) (f := 56) rfl (by simp [intsD, hc1]) (idx_run (nM M c) (by omega) c.a (n := n) (by omega))
  have f2 := fun h => call_of (h := h) (pg := pg) (f := 56) rfl (by simp [intsD, hc1]) (idx_run (nM M c) (by omega) c.b (n := n) (by omega))
  rw [pa] at f1
  rw [pb] at f2
  have fin : ∀ (y : Env 183), y.v 3 = .ptr 3 0 → y.v 4 = .ptr 4 0 → y.v 6 = .ptr b6 0 → y.v 14 = D.int (nP M c) → y.v 15 = D.int (nQ M c) → endK (rc pg n) [(.cell 4 40, true, 2), (.tmp 5, false, 0)] (k20v.ev ⟨pg, 183, none⟩ (rc pg n) ⟨y.l, (h.bump 183).bump 183, []⟩) = some (.ret (nRes M C c)) := by
    intro y v3 v4 v6 v14 v15
    refine rg_v (c := c) (by omega) hp hq ((t.bump 183).bump 183) (by simp; omega) (by simp [g3]) y v3 v4 v6 v14 v15 fun y h1 t1 h16 g13 v3 v4 v6 v14 v15 => ?_
    rw [e1] at t1
    refine rg_x (c := c) (by omega) hp hq t1 h16 g13 y v3 v4 v6 v14 v15 fun y h2 t2 h26 v4 v6 => ?_
    rw [e2] at t2
    obtain ⟨r1, r2⟩ := rg_w k6 cW hp hq hne (by omega) hW ⟨by omega, by omega⟩ ⟨by omega, by omega⟩ t2 h26 n46 y v4 v6 hn
    by_cases hf : nFit M C c
    · rw [r1 (nfit cl hc hf)]
      unfold nRes
      rw [if_pos hf]; rfl
    · rw [r2 (fun ft => hf ⟨ft.he, ft.hf⟩)]
      unfold nRes
      rw [if_neg hf]
  have g6 := t.g6
  obtain ⟨p, hpp⟩ : ∃ p, p = nP M c := ⟨_, rfl⟩
  obtain ⟨q, hqq⟩ : ∃ q, q = nQ M c := ⟨_, rfl⟩
  rw [← hpp] at f1 fin
  rw [← hqq] at f2 fin
  simp only [intsD] at g6 f1 f2
  simp only [clC] at g3
  simp [k20u, v3, v6, g6, g3, f1, f2, D.cells, D.one]
  exact fin _ (by simp [v3]) (by simp [v4]) (by simp [v6]) (by simp) (by simp)
set_option maxHeartbeats 16000000 in
theorem rg_t {M : List Int} (hM : M.length ≤ 64) {C : Mx} (cl : Cl M.length C) (wd : ∀ i j z, C i j = some z → -40000000 ≤ z ∧ z ≤ 40000000) {c : Clm} (hc : okF c = true) (k6 : (nM M c).length ≤ 64) {b6 : Nat} {h : Heap} (n46 : 4 < b6) (h6 : b6 < h.next) (hf : h.Fr) (g6 : h.get b6 = some (.cells 40 [intsD (nM M c), .val (.slice none 0 0)])) (g2 : h.get 2 = some (.cells 40 [intsD M, rowsD M.length (encM C)])) (g3 : h.get 3 = some (.cells 42 (clC c))) (g4 : h.get 4 = some (.cells 40 nil2)) (y : Env 183) (v2 : y.v 2 = .ptr 2 0) (v3 : y.v 3 = .ptr 3 0) (v4 : y.v 4 = .ptr 4 0) (v6 : y.v 6 = .ptr b6 0) {n : Nat} (hn : 1000 ≤ n) :
    endK (rc pg n) [(.cell 4 40, true, 2), (.tmp 5, false, 0)] (k20t.ev ⟨pg, 183, none⟩ (rc pg n) ⟨y.l, h, []⟩) = some (.ret (nRes M C c)) := by
  obtain ⟨M', hM'⟩ : ∃ M', M' = nM M c := ⟨_, rfl⟩
  have g6' := g6
  rw [← hM'] at g6' k6
  have g6s := g6'
  simp only [intsD] at g6s
  simp [k20t, v6, g6s, D.cells, D.one, ev_loop]
  refine Res.endsAfter (lp_rule 400 (GmI M M' (encM C) c b6) _ (gm_round M M' hM k6 (encM C) c b6) M'.length n _ (by omega) ⟨_, _, 0, [], .val (.slice none 0 0), rfl, by omega, by simp [v2], by simp [v3], by simp [v4], by simp [v6], by simp [intsD], by simp, by simp, by simp [g6'], by simp [g2], by simp [g3], by simp [g4], by simp; omega, n46, rfl, List.nodup_nil, fun q hq => absurd hq List.not_mem_nil, fun j hj => absurd hj (by simp), .inl ⟨rfl, rfl⟩, hf.bump _⟩) ?_
  rintro x s ⟨rfl, x, h', i, ks, d, rfl, hi, u2, u3, u4, u6, u44, u45, u46, k6', k2, k3, k4, n6, _, hks, hnd, hkq, hrow, gy, hf'⟩
  have hin : i = M'.length := by omega
  have hpos : 0 < M'.length := by
    have := (nm_mem M c).1
    rw [← hM'] at this
    exact List.length_pos_of_mem this
  rcases gy with ⟨e0, _⟩ | ⟨_, mb, rfl, gm, nmb⟩
  · omega
  subst hin
  have t : GwH M' (encM (nW M C c)) mb b6 ks h' := by
    refine ⟨⟨hks, gm, hnd, fun q hq => ⟨(hkq q hq).1, fun e => ?_⟩, fun j hj => ?_, nmb⟩, k6', k4, by omega, hf'⟩
    · obtain ⟨j, hj, e2⟩ := List.getElem_of_mem hq
      have := hrow j hj
      rw [e2, e, gm] at this; cases this
    · rw [hrow j hj]
      congr 2
      exact yCs_ext fun v hv => by rw [wE_ext (by omega) hv, hM']; rfl
  simp
  subst hM'
  exact rg_u cl wd hc k6 t n6 n46 k3 x u3 u4 u6 hn
end Go.Proofs.YtlkpikdfbodhoaaDoor
/- CheckNet and Grow are the document's: the law, given the document's Grow. -/
namespace Go.Proofs.YtlkpikdfbodhoaaDoor
open Go Go.Em Go.Em.Net
set_option maxRecDepth 100000
theorem growF_form (M : List Int) (R : List (List Int)) (c : Clm) : ∃ (M1 : List Int) (A1 : Nat → Nat → Int) (e : Int), M1.length ≤ 64 ∧ growF M R c = .tup [nD M1 A1, D.int e] := by
  have hn : nilN = nD [] (fun _ _ => 0) := rfl
  unfold growF
  split
  · exact ⟨[], fun _ _ => 0, 22, by simp, by rw [hn]⟩
  split
  · exact ⟨[], fun _ _ => 0, 20, by simp, by rw [hn]⟩
  split
  · exact ⟨[], fun _ _ => 0, 2, by simp, by rw [hn]⟩
  rename_i h64
  unfold nRes
  split
  · split
    · exact ⟨_, _, 0, by omega, rfl⟩
    · exact ⟨[], fun _ _ => 0, 2, by simp, by rw [hn]⟩
  · exact ⟨[], fun _ _ => 0, 25, by simp, by rw [hn]⟩
set_option maxHeartbeats 16000000 in
theorem nets_of (M : List Int) (R : List (List Int)) (c : Clm) (hg : ∀ {n : Nat}, 200000 ≤ n → pureCall (rc pg n) 20 [nrD M R, clD c] = some (.ret (growF M R c))) {n : Nat} (hn : 300000 ≤ n) : pureCall (rc pg n) 5 [nrD M R, clD c] = some (.ret (.val (.bool true))) := by
  obtain ⟨m, rfl, e⟩ := body (pg := pg) (f := 5) (args := [nrD M R, clD c]) (show 0 < n by omega) rfl rfl
  rw [e]
  have hc1 := ints_canonL M
  have hc3 := rw_canon R
  have hcl : D.canonL [nrD M R, clD c] = true := by simp [nrD, intsD, rwD, hc1, hc3, clD, clC]
  have f1 := fun h => call_of (h := h) (pg := pg) (f := 19) rfl hcl (grow_all M R c (n := m) (by omega))
  have f2 := fun h => call_of (h := h) (pg := pg) (f := 20) rfl hcl (hg (n := m) (by omega))
  obtain ⟨M1, A1, er, hl1, hG⟩ := growF_form M R c
  rw [hG] at f1 f2
  have f3 := check_gen M R (n := m) (by omega)
  have f4 := rcheck_gen M R (n := m) (by omega)
  obtain ⟨z, hz⟩ : ∃ z : Int, z = if netOk M R = true then 0 else 22 := ⟨_, rfl⟩
  rw [← hz] at f3 f4
  have f5 := same_net M1 A1 hl1 (n := m) (by omega)
  obtain ⟨m', rfl⟩ : ∃ m', m = m' + 151 := more_of (show 151 ≤ m by omega)
  have f6 := sane_run m'
  have s11 : pg.sh 11 = false := rfl
  have f7 : pureA (rc pg (m' + 151)) 11 [] [] = some (.ret (.val (.bool true))) := by
    have hc := sane_call (n := m' + 151) (by omega) Heap.empty
    cases hp : pureA (rc pg (m' + 151)) 11 [] [] with
    | none => simp [call, s11, hp] at hc
    | some o =>
      simp [call, s11, hp] at hc
      exact congrArg some hc
  have s21 : pg.sh 21 = false := rfl
  have s22 : pg.sh 22 = false := rfl
  have s23 : pg.sh 23 = false := rfl
  have hd1 := ints_canonL M1
  have hd2 := rows_canonL M1.length A1
  have o3 : ∀ (z : Bool) (l : List D), D.one (.sl z l) = true := fun _ _ => rfl
  simp only [nrD, nD, intsD, rwD, rowsD, clD, clC] at f1 f2 f3 f4 f5 hc1 hc3
  simp [k5, Env.v_ini, nrD, nD, intsD, rwD, rowsD, clD, clC, D.cells, D.one, o3, f1, f2, dcore_f, s21, s22, s23, s11, f3, f4, f5, f7, hc1, hc3, hd1, hd2]
end Go.Proofs.YtlkpikdfbodhoaaDoor
/- Grow, by the document: its marks. -/
namespace Go.Proofs.YtlkpikdfbodhoaaDoor
open Go Go.Em Go.Em.Net
set_option maxRecDepth 100000
def dY2 (R : Rc) (f : FuncId) (base : Nat) (e : List D) (ts hs : List HK) (h : Heap) (z : Option (List D × List Nat)) : Option (D × Heap) := match z with
  | some (l, ks) => dZ2 base e ts hs h ks (pureS R f l)
  | none => none
theorem dcore_y2 {c : Cfg} {R : Rc} {base : Nat} (d : Option Nat) (f : FuncId) (x y : X) (ts hs : List HK) (wt : Nat) (e : List D) (h : Heap) (hs' : c.pg.sh f = false) :
    dcore c R base ⟨⟨none, d, .inr (.fn f [x, y])⟩, some ts, hs, wt, false⟩ e h = dY2 R f base e ts hs h (each (frz (h.kill (hids base e hs)) depth) [rd c.pg.gl e x, rd c.pg.gl e y]) := by
  unfold dcore dY2
  simp only [G.want, hs', Bool.false_eq_true, if_false, List.map_cons, List.map_nil]
  cases hz : each (frz (h.kill (hids base e hs)) depth) [rd c.pg.gl e x, rd c.pg.gl e y] with
  | none => rfl
  | some p =>
    obtain ⟨l, ks⟩ := p
    simp only [pureA_cons]
    cases hp : pureS R f l with
    | none => unfold dZ2; rfl
    | some o =>
      unfold dZ2
      cases o <;> simp [Out.isPan, Out.d]
theorem dY2_some {R : Rc} {f : FuncId} {base : Nat} {e : List D} {ts hs : List HK} {h : Heap} {l : List D} {ks : List Nat} {o : Out} (hp : pureCall R f l = some o) : dY2 R f base e ts hs h (some (l, ks)) = dZ2 base e ts hs h ks (some o) := by
  unfold dY2; simp [hp]
theorem flat_ints : ∀ l : List Int, List.flatMap D.cells (l.map D.int) = l.map D.int
  | [] => rfl
  | a :: l => by
    have ih := flat_ints l
    rw [List.map_cons, List.flatMap_cons, ih]; rfl
set_option maxHeartbeats 16000000 in
theorem rgrow_gen {M : List Int} {R : List (List Int)} {c : Clm} (h : netOk M R = true) (hc : okF c = true) (h0 : 0 < M.length) {n : Nat} (hn : 200000 ≤ n) : pureCall (rc pg n) 20 [nrD M R, clD c] = some (.ret (growF M R c)) := by
  obtain ⟨m, rfl, e⟩ := body (pg := pg) (f := 20) (args := [nrD M R, clD c]) (show 0 < n by omega) rfl rfl
  rw [e]
  have o := nok_of h
  have he : ∀ i j, i < M.length → j < M.length → aR R i j = encM (decM M.length (aR R)) i j := fun i j hi hj => (enc_dec hi hj).symm
  have cl := dec_cl o
  have wd : ∀ i j z, decM M.length (aR R) i j = some z → -40000000 ≤ z ∧ z ≤ 40000000 := fun i j z hz => by
    obtain ⟨a1, a2, a3, rfl⟩ := dec_some hz
    have := o.wide i j a1 a2
    omega
  have hl := o.len
  have f1 := fun h => call_of (h := h) (pg := pg) (f := 64) rfl (nr_canon M R) (closed_run M R (show 400 ≤ m by omega))
  rw [← net_both, h] at f1
  have f2 := fun h => call_of (h := h) (pg := pg) (f := 28) rfl (by simp [clD, clC]) (@rck_run c m (by omega))
  have hk : ckF c = 0 := by unfold ckF; rw [hc]; rfl
  rw [hk] at f2
  have hl1 := insF_len M c.a
  have r1 := @with_run M o.rise (by omega) c.a m (by omega)
  have r2 := @with_run (insF M c.a) (insF_rise o.rise _) (by omega) c.b m (by omega)
  rw [nm_ins o.rise] at r2
  have s65 : pg.sh 65 = false := rfl
  have o3 : ∀ (z : Bool) (l : List D), D.one (.sl z l) = true := fun _ _ => rfl
  have hcan2 : D.canonL [intsD (insF M c.a), D.int c.b] = true := by simp [intsD, ints_canonL]
  have hz0 : zerosD [.int .i64 0] 1 0 = [] := rfl
  have hroom : (8 : Int) * M.length ≤ (room : Int) := by unfold room; omega
  rw [form_nD (net_form h), nD_ext he] at f1 ⊢
  simp only [nD, intsD, rowsD, clD, clC] at f1 f2 r1 r2 hcan2
  have hcell : (∀ x : Int, x ∈ M → (D.int x).cells.length = 1) = True := by simp [D.cells]
  have hfm := flat_ints M
  have hMne : M ≠ [] := fun e => by rw [e] at h0; simp at h0
  have hall : (M.map D.int).all D.one = true := by simp [D.one]
  have hne0 : M.length ≠ 0 := by omega
  have hA : ∀ (t : Nat) (H : Heap), H.get 576 = some (.cells 3 []) → apK t 3 1 8 H (.slr 576 0 0 1 (some 0)) (some (M.length, M.map D.int)) = (H.alloc t (.cells 3 (M.map D.int))).map fun h => (.slr t 0 M.length 1 none, h) := fun t H hg => by
    rw [apK_some _ hall hne0, appD_slr, hg]
    unfold appS
    have q1 : 0 + 0 * 1 ≤ ([] : List D).length := by simp
    have q2 : (0 + M.length) * 8 ≤ room := by unfold room; omega
    have q3 : 0 + M.length ≤ maxLen := by unfold maxLen; omega
    have q4 : ¬ 0 + M.length ≤ 0 := by omega
    have q5 : M.length * 8 ≤ room := by omega
    have q6 : M.length ≤ maxLen := by omega
    simp [q5, q6, hMne]
  have htk : List.take M.length (M.map D.int) = M.map D.int := List.take_of_length_le (by simp)
  have hea := fun H => each_canon H 22 _ (ints_canonL M)
  have hch : chunk 1 M.length (M.map D.int) = M.map D.int := chunk_ints M
  have mk : ∀ e, mayKill 549 e [.fr 30, .fr 27] [.fr 6] false [579] = true := fun e => rfl
  have hz2 := fun e h d => dZ2_ret (h := h) (d := d) (mk e)
  have hins : (insF M c.a) ≠ [] := fun e => by
    have := (insF_mem M c.a c.a).2 (.inr rfl)
    rw [e] at this; cases this
  have hth : ∀ H : Heap, thaw [579] (.sl false ((insF M c.a).map D.int)) H = H.set 579 none := fun H => by
    unfold thaw
    cases hi : insF M c.a with
    | nil => exact absurd hi hins
    | cons a l => simp [D.flat]
  have hgr : growF M R c = if 64 < (nM M c).length then .tup [nilN, D.int 2] else nRes M (decM M.length (aR R)) c := by
    unfold growF; rw [h, hc]; simp
  rw [hgr]
  simp [k20_eq, Env.v_ini, nD, intsD, rowsD, clD, clC, D.cells, D.one, o3, f1, f2, hz0, hfm, hA, dcore_y2, htk, hea, hch, dY2_some r1, hz2, hth, dcore_f, s65, hcan2, r2]
  by_cases hl2 : 64 < (nM M c).length
  · have hl3 : (64 : Int) < (nM M c).length := by omega
    rw [if_pos hl2]
    simp [hl3, nilN, D.cells, D.one]
  · have hl3 : ¬ (64 : Int) < (nM M c).length := by omega
    rw [if_neg hl2]
    simp [hl3]
    refine rg_t (b6 := 555) hl cl wd hc (by omega) (by omega) (by simp) ?_ (by simp [intsD]) (by simp [intsD, rowsD]) (by simp [clC]) (by simp [nil2]) _ (by simp) (by simp) (by simp) (by simp) (by omega)
    repeat' first | exact Heap.Fr.empty | apply Heap.Fr.bump | apply Heap.Fr.set
    all_goals first | omega | (simp <;> omega)
end Go.Proofs.YtlkpikdfbodhoaaDoor
/- Grow, by the document: a net without marks; and the law. -/
namespace Go.Proofs.YtlkpikdfbodhoaaDoor
open Go Go.Em Go.Em.Net
set_option maxRecDepth 100000
set_option maxHeartbeats 16000000 in
theorem rgrow_nil {M : List Int} {R : List (List Int)} {c : Clm} (h : netOk M R = true) (hc : okF c = true) (h0 : M = []) {n : Nat} (hn : 200000 ≤ n) : pureCall (rc pg n) 20 [nrD M R, clD c] = some (.ret (growF M R c)) := by
  have hR0 : R = [] := List.eq_nil_of_length_eq_zero (by have := frm_len (Bool.and_eq_true_iff.1 (show (decide (M.length ≤ 64) && frmF M.length (-1) M R) = true from net_form h)).2; rw [this, h0]; rfl)
  obtain ⟨m, rfl, e⟩ := body (pg := pg) (f := 20) (args := [nrD M R, clD c]) (show 0 < n by omega) rfl rfl
  rw [e]
  have o := nok_of h
  have he : ∀ i j, i < M.length → j < M.length → aR R i j = encM (decM M.length (aR R)) i j := fun i j hi hj => (enc_dec hi hj).symm
  have cl := dec_cl o
  have wd : ∀ i j z, decM M.length (aR R) i j = some z → -40000000 ≤ z ∧ z ≤ 40000000 := fun i j z hz => by
    obtain ⟨a1, a2, a3, rfl⟩ := dec_some hz
    have := o.wide i j a1 a2
    omega
  have hl := o.len
  have f1 := fun h => call_of (h := h) (pg := pg) (f := 64) rfl (nr_canon M R) (closed_run M R (show 400 ≤ m by omega))
  rw [← net_both, h] at f1
  have f2 := fun h => call_of (h := h) (pg := pg) (f := 28) rfl (by simp [clD, clC]) (@rck_run c m (by omega))
  have hk : ckF c = 0 := by unfold ckF; rw [hc]; rfl
  rw [hk] at f2
  have hl1 := insF_len M c.a
  have r1 := @with_run M o.rise (by omega) c.a m (by omega)
  have r2 := @with_run (insF M c.a) (insF_rise o.rise _) (by omega) c.b m (by omega)
  rw [nm_ins o.rise] at r2
  have s65 : pg.sh 65 = false := rfl
  have o3 : ∀ (z : Bool) (l : List D), D.one (.sl z l) = true := fun _ _ => rfl
  have hcan2 : D.canonL [intsD (insF M c.a), D.int c.b] = true := by simp [intsD, ints_canonL]
  have hz0 : zerosD [.int .i64 0] 1 0 = [] := rfl
  have hroom : (8 : Int) * M.length ≤ (room : Int) := by unfold room; omega
  rw [form_nD (net_form h), nD_ext he] at f1 ⊢
  simp only [nD, intsD, rowsD, clD, clC, List.map_nil] at f1 f2 r1 r2 hcan2
  have mk : ∀ e, mayKill 549 e [.fr 30, .fr 27] [.fr 6] false [576] = true := fun e => rfl
  have hz2 := fun e h d => dZ2_ret (h := h) (d := d) (mk e)
  have hins : (insF M c.a) ≠ [] := fun e => by
    have := (insF_mem M c.a c.a).2 (.inr rfl)
    rw [e] at this; cases this
  have hth : ∀ H : Heap, thaw [576] (.sl false ((insF M c.a).map D.int)) H = H.set 576 none := fun H => by
    unfold thaw
    cases hi : insF M c.a with
    | nil => exact absurd hi hins
    | cons a l => simp [D.flat]
  subst h0
  simp only [List.map_nil, List.length_nil, List.range_zero] at f1 r1
  have hgr : growF ([] : List Int) R c = if 64 < (nM ([] : List Int) c).length then .tup [nilN, D.int 2] else nRes ([] : List Int) (decM ([] : List Int).length (aR R)) c := by
    unfold growF; rw [h, hc]; simp
  rw [hgr]
  simp [k20_eq, Env.v_ini, nD, intsD, rowsD, clD, clC, D.cells, D.one, o3, f1, f2, hz0, apK_zero_slr, dcore_y2, chunk, dY2_some r1, hz2, hth, dcore_f, s65, hcan2, r2]
  by_cases hl2 : 64 < (nM ([] : List Int) c).length
  · have hl3 : (64 : Int) < (nM ([] : List Int) c).length := by omega
    rw [if_pos hl2]
    simp [hl3, nilN, D.cells, D.one]
  · have hl3 : ¬ (64 : Int) < (nM ([] : List Int) c).length := by omega
    rw [if_neg hl2]
    simp [hl3]
    refine rg_t (b6 := 555) hl cl wd hc (by omega) (by omega) (by simp) ?_ (by simp [intsD]) (by simp [intsD, rowsD]) (by simp [clC]) (by simp [nil2]) _ (by simp) (by simp) (by simp) (by simp) (by omega)
    repeat' first | exact Heap.Fr.empty | apply Heap.Fr.bump | apply Heap.Fr.set
    all_goals first | omega | (simp <;> omega)
theorem rgrow_all (M : List Int) (R : List (List Int)) (c : Clm) {n : Nat} (hn : 200000 ≤ n) : pureCall (rc pg n) 20 [nrD M R, clD c] = some (.ret (growF M R c)) := by
  cases h : netOk M R with
  | false =>
    have e : growF M R c = .tup [nilN, D.int 22] := by unfold growF; rw [if_pos h]
    rw [e]; exact rgrow_ref M R c h (by omega)
  | true =>
    cases hc : okF c with
    | false =>
      have e : growF M R c = .tup [nilN, D.int 20] := by unfold growF; rw [h, if_neg (by simp), if_pos hc]
      rw [e]; exact rgrow_claim M R c h hc (by omega)
    | true =>
      by_cases h0 : M = []
      · exact rgrow_nil h hc h0 hn
      · exact rgrow_gen h hc (List.length_pos_iff.2 h0) hn
theorem nets_law (M : List Int) (R : List (List Int)) (c : Clm) {n : Nat} (hn : 300000 ≤ n) : pureCall (rc pg n) 5 [nrD M R, clD c] = some (.ret (.val (.bool true))) :=
  nets_of M R c (fun h => rgrow_all M R c h) hn
end Go.Proofs.YtlkpikdfbodhoaaDoor
