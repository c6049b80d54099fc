/- Whether sources are a least conflict, by the program: for those that are. -/
import Derived.Test.YtppfjkebamegnaaDoorCr1
import Derived.Test.YtppfjkebamegnaaDoorBnd
import Derived.Test.YtppfjkebamegnaaDoorTz
namespace Go.Proofs.YtppfjkebamegnaaDoor
open Go Go.Em Go.Em.Net
set_option maxRecDepth 100000
def XIx (v : Int) (l : List Int) (k : Nat) (s : St) : Prop := ∃ (x : Env 19) (h : Heap) (i : Nat), s = ⟨x.l, h, []⟩ ∧ i + k = l.length ∧ x.v 0 = intsD l ∧ x.v 1 = D.int v ∧ x.v 7 = D.int l.length ∧ x.v 8 = D.int i ∧ ixP (· == v) 0 l = ixP (· == v) i (l.drop i)
def XQx (v : Int) (l : List Int) (x : Ex) (s : St) : Prop :=
  (x = .exit 0 ∧ ixP (· == v) 0 l = -1 ∧ ∃ (x : Env 19) (h : Heap), s = ⟨x.l, h, []⟩) ∨ (x = .ret ∧ ∃ (x : Env 19) (h : Heap), s = ⟨x.l, h, []⟩ ∧ x.v 4 = D.int (ixP (· == v) 0 l))
set_option maxHeartbeats 1000000 in
theorem indexx_round (v : Int) (l : List Int) (hl : l.length ≤ 200000) : ∀ n, 0 ≤ n → ∀ k s, XIx v l k s → Res (k109l0.ev ⟨pg, 19, none⟩ (rc pg n) s) (Rnd (XIx v l) (XQx v l) k) := by
  rintro n hn k s ⟨x, h, i, rfl, hik, v0, v1, v7, v8, ho⟩
  simp only [intsD] at v0
  by_cases hlt : i < l.length
  · obtain ⟨r, hr⟩ : ∃ r, l[i] = r := ⟨l[i], rfl⟩
    have hd : l.drop i = r :: l.drop (i + 1) := by rw [List.drop_eq_getElem_cons hlt, hr]
    rw [hd, ixP] at ho
    have hw1 : IntKind.i64.wrap ((i : Int) + 1) = (i : Int) + 1 := wrap_i64 (by omega) (by omega)
    by_cases he : (r == v) = true
    · rw [if_pos he] at ho
      have he2 : (v == r) = true := by simp at he ⊢; exact he.symm
      simp [-beq_iff_eq, k109l0, v0, v1, v7, v8, hlt, hr, D.cells, he2]
      exact .inr ⟨rfl, _, _, rfl, by simp [ho]⟩
    · rw [if_neg he] at ho
      have he2 : (v == r) = false := by simp at he ⊢; exact fun h => he h.symm
      simp [-beq_iff_eq, -beq_eq_false_iff_ne, k109l0, v0, v1, v7, v8, hlt, hr, D.cells, he2, hw1]
      exact ⟨k - 1, by omega, _, _, i + 1, rfl, by omega, by simp [v0, intsD], by simp [v1], by simp [v7], by simp, ho⟩
  · simp [k109l0, v7, v8, hlt]
    have hi : i = l.length := by omega
    rw [hi, List.drop_length] at ho
    exact .inl ⟨rfl, ho, _, _, rfl⟩
theorem indexx_run (l : List Int) (hl : l.length ≤ 200000) (v : Int) {n : Nat} (hn : l.length + 5 ≤ n) : pureCall (rc pg n) 109 [intsD l, D.int v] = some (.ret (D.int (ixP (· == v) 0 l))) := by
  obtain ⟨m, rfl, e⟩ := body (pg := pg) (f := 109) (args := [intsD l, D.int v]) (show 0 < n by omega) rfl rfl
  rw [e]
  simp [k109, Env.v_ini, intsD, ev_loop]
  refine Res.endsAfter (lp_rule 0 (XIx v l) _ (indexx_round v l hl) l.length m _ (by omega) ⟨_, _, 0, rfl, by omega, by simp [Env.v_ini, intsD], by simp [Env.v_ini], by simp, by simp, rfl⟩) ?_
  rintro x s (⟨rfl, hm, x, h, rfl⟩ | ⟨rfl, x, h, rfl, v4⟩)
  · simp [hm]
  · simp [v4]
theorem contains_run (l : List Int) (hl : l.length ≤ 200000) (v : Int) {n : Nat} (hn : l.length + 6 ≤ n) : pureCall (rc pg n) 83 [intsD l, D.int v] = some (.ret (D.bool (hasI l v))) := by
  obtain ⟨m, rfl, e⟩ := body (pg := pg) (f := 83) (args := [intsD l, D.int v]) (show 0 < n by omega) rfl rfl
  rw [e]
  have ci := fun h => call_of (h := h) (pg := pg) (f := 109) rfl (by simp [intsD, ints_canonL]) (@indexx_run l hl v m (by omega))
  have ha := ixP_any (· == v) l 0
  simp only [intsD] at ci
  obtain ⟨z, hz⟩ : ∃ z, z = ixP (· == v) 0 l := ⟨_, rfl⟩
  rw [← hz] at ci ha
  have hb : hasI l v = decide (z ≥ 0) := by unfold hasI; exact ha.symm
  rw [hb]
  simp [k83, Env.v_ini, intsD, ci]
theorem frz_slc {S Z : List Int} {kb d : Nat} {c0 : Option Nat} {H : Heap} (hg : H.get kb = some (.cells 3 ((S ++ Z).map D.int))) : frz H (d + 2) (.slr kb 0 S.length 1 c0) = some (intsD S, [kb]) := by
  rw [frz_slr, hg, frzS_cells]
  have hle : 0 + S.length * 1 ≤ ((S ++ Z).map D.int).length ∧ 0 < 1 := by simp
  have htk : (((S ++ Z).map D.int).drop 0).take (S.length * 1) = S.map D.int := by
    rw [List.drop_zero, Nat.mul_one, List.map_append]
    exact List.take_left' (by simp)
  rw [if_pos hle, htk, each_canon H d _ (ints_canonL S)]
  simp only [Option.map_some]
  rw [chunk_ints]; rfl
theorem contains_call {S Z : List Int} (hl : S.length ≤ 1000) {kb : Nat} {c0 : Option Nat} {H : Heap} (hg : H.get kb = some (.cells 3 ((S ++ Z).map D.int))) (v : Int) {n : Nat} (hn : 2000 ≤ n) : call pg (rc pg n) 83 [.slr kb 0 S.length 1 c0, D.int v] H = some (.ret (D.bool (hasI S v)), H) := by
  refine callfzg (bs := [intsD S, D.int v]) (ks := [kb]) rfl ?_ (contains_run S (by omega) v (by omega)) rfl
  rw [each_cons, show depth = 22 + 2 from rfl, frz_slc (d := 22) hg]
  rfl
def CcI (C0 : D) (S F : List Int) (Z : List Int) (kb : Nat) (c0 : Option Nat) (k : Nat) (s : St) : Prop := ∃ (x : Env 48) (h : Heap) (i : Nat) (la : Int), s = ⟨x.l, h, []⟩ ∧ i + k = F.length ∧ x.v 0 = C0 ∧ x.v 1 = intsD F ∧ x.v 6 = .slr kb 0 S.length 1 c0 ∧ x.v 7 = D.int la ∧ x.v 18 = intsD F ∧ x.v 19 = D.int F.length ∧ x.v 20 = D.int i ∧ h.get kb = some (.cells 3 ((S ++ Z).map D.int)) ∧ (∀ hq : i < F.length, la < F[i]) ∧ h.Fr
set_option maxHeartbeats 4000000 in
theorem cc_round (C0 : D) (S F Z : List Int) (hS : S.length ≤ 400) (hF : F.length ≤ 400) (hR : Rise F) (hsub : ∀ x, x ∈ F → x ∈ S) (kb : Nat) (c0 : Option Nat) : ∀ n, 2000 ≤ n → ∀ k s, CcI C0 S F Z kb c0 k s → Res (k39l0.ev ⟨pg, 48, none⟩ (rc pg n) s) (Rnd (CcI C0 S F Z kb c0) (fun x s => x = .exit 0 ∧ CcI C0 S F Z kb c0 0 s) k) := by
  rintro n hn k s ⟨x, h, i, la, rfl, hik, v0, v1, v6, v7, v18, v19, v20, gk, hla, hf⟩
  simp only [intsD] at v18
  by_cases hi : i < F.length
  · obtain ⟨v, hv⟩ : ∃ v, F[i] = v := ⟨_, rfl⟩
    have w1 : IntKind.i64.wrap ((i : Int) + 1) = (i : Int) + 1 := wrap_i64 (by omega) (by omega)
    have hlv := hla hi
    rw [hv] at hlv
    have hle : ¬ v ≤ la := by omega
    have hin : hasI S v = true := hasI_mem.2 (hsub v (by rw [← hv]; exact List.getElem_mem hi))
    have cc := fun (H : Heap) (g : H.get kb = some (.cells 3 ((S ++ Z).map D.int))) => contains_call (by omega) (c0 := c0) g v hn
    rw [hin] at cc
    obtain ⟨W, hW⟩ : ∃ W, W = (S ++ Z).map D.int := ⟨_, rfl⟩
    rw [← hW] at gk cc
    simp [k39l0, v6, v7, v18, v19, v20, hi, hv, D.cells, hle, cc, gk, w1]
    exact ⟨k - 1, by omega, _, _, i + 1, v, rfl, by omega, by simp [v0], by simp [v1], by simp [v6], by simp, by simp [v18, intsD], by simp [v19], by simp, by simp [gk, hW], fun hq => by rw [← hv]; exact List.pairwise_iff_getElem.1 hR i (i + 1) hi hq (by omega), by repeat' first | exact hf | apply Heap.Fr.bump⟩
  · simp [k39l0, v19, v20, hi]
    exact ⟨_, _, i, la, rfl, by omega, by simp [v0], by simp [v1], by simp [v6], by simp [v7], by simp [v18, intsD], by simp [v19], by simp [v20], by simp [gk], hla, hf.bump _⟩
def TrD (C0 : D) (b : Nat) : D := .fn (.func 78) [.agg [C0, .mapr b]] []
def IwI (l : List Clm) (F : List Int) (b : Nat) (k : Nat) (s : St) : Prop := ∃ (x : Env 19) (h : Heap) (i : Nat), s = ⟨x.l, h, []⟩ ∧ i + k = F.length ∧ x.v 0 = intsD F ∧ x.v 1 = TrD (clsD l) b ∧ x.v 7 = D.int F.length ∧ x.v 8 = D.int i ∧ h.get b = some (.map (mapK F fun _ => true)) ∧ b < h.next ∧ h.Fr
theorem updB_same (B : Int → Bool) (v : Int) (h : B v = true) : updB B v true = B := by
  funext w; unfold updB; split
  · rename_i e; rw [e, h]
  · rfl
set_option maxHeartbeats 4000000 in
theorem iw_round (l : List Clm) (h0 : chkF l = 0) {F : List Int} (hF : F.length ≤ 400) (hn0 : F.Nodup) (hall : ∀ v, v ∈ F → badF (onlyF l (inB F (updB (fun _ => true) v false))) = false) (b : Nat) : ∀ n, 5000 ≤ n → ∀ k s, IwI l F b k s → Res (k108l0.ev ⟨pg, 19, none⟩ (rc pg n) s) (Rnd (IwI l F b) (fun x s => x = .exit 0 ∧ IwI l F b 0 s) k) := by
  rintro n hn k s ⟨x, h, i, rfl, hik, v0, v1, v7, v8, gb, bn, hf⟩
  simp only [intsD] at v0
  simp only [TrD] at v1
  by_cases hi : i < F.length
  · obtain ⟨v, hv⟩ : ∃ v, F[i] = v := ⟨_, rfl⟩
    have hvF : v ∈ F := by rw [← hv]; exact List.getElem_mem hi
    have w1 : IntKind.i64.wrap ((i : Int) + 1) = (i : Int) + 1 := wrap_i64 (by omega) (by omega)
    obtain ⟨H, hH⟩ : ∃ H, H = ((h.bump 19).bump 19).bump 19 := ⟨_, rfl⟩
    obtain ⟨h2, r2, g2, f2, n2, _⟩ := fw_sh l h0 hn0 (fun _ => true) hvF (b := b) (h := H) (by rw [hH]; simp [gb]) (by rw [hH]; simp; omega) (by rw [hH]; repeat' first | exact hf | apply Heap.Fr.bump) (n := n) (by omega)
    rw [hall v hvF] at r2
    rw [updB_same (fun _ => true) v rfl] at g2
    have c2 := call_sh (pg := pg) (f := 78) rfl r2
    have hb2 : b < h2.next := by
      have : H.next = h.next + 19 + 19 + 19 := by rw [hH]; simp
      omega
    obtain ⟨C, hC⟩ : ∃ C, C = clsD l := ⟨_, rfl⟩
    rw [← hC] at v1 c2
    simp [k108l0, v0, v1, v7, v8, hi, hv, D.cells, ← hH, c2, w1]
    exact ⟨k - 1, by omega, _, _, i + 1, rfl, by omega, by simp [v0, intsD], by simp [v1, TrD, hC], by simp [v7], by simp, by simp [g2], by simp; omega, f2.bump _⟩
  · simp [k108l0, v7, v8, hi]
    exact ⟨_, _, i, rfl, by omega, by simp [v0, intsD], by simp [v1, TrD], by simp [v7], by simp [v8], by simp [gb], by simp; omega, hf.bump _⟩
end Go.Proofs.YtppfjkebamegnaaDoor
/- Whether sources are a least conflict, by the program: for those that are; the function. -/
namespace Go.Proofs.YtppfjkebamegnaaDoor
open Go Go.Em Go.Em.Net
set_option maxRecDepth 100000
set_option maxHeartbeats 4000000 in
theorem iw_sh (l : List Clm) (h0 : chkF l = 0) {F : List Int} (hF : F.length ≤ 400) (hn0 : F.Nodup) (hall : ∀ v, v ∈ F → badF (onlyF l (inB F (updB (fun _ => true) v false))) = false) {b : Nat} {h : Heap} (gb : h.get b = some (.map (mapK F fun _ => true))) (bn : b < h.next) (hf : h.Fr) {n : Nat} (hn : 6000 ≤ n) :
    ∃ h', (rc pg n).fn 108 [intsD F, TrD (clsD l) b] h = some (.ret (D.int (-1)), h') ∧ (h'.Fr) := by
  obtain ⟨m, rfl, e⟩ := fn_body (pg := pg) (f := 108) (args := [intsD F, TrD (clsD l) b]) (h := h) (show 0 < n by omega) rfl rfl
  rw [e]
  simp [k108, Env.v_ini, intsD, ev_loop]
  refine Res.fin3 (lp_rule 5000 (IwI l F b) _ (iw_round l h0 hF hn0 hall b) F.length m _ (by omega) ⟨_, _, 0, rfl, by omega, by simp [Env.v_ini, intsD], by simp [Env.v_ini], by simp, by simp, by simp [gb], by simp; omega, by repeat' first | exact hf | apply Heap.Fr.bump⟩) ?_
  rintro x s ⟨rfl, x, h1, i, rfl, hi, v0, v1, v7, v8, g1, b1, f1⟩
  simp
  exact f1.bump _
theorem cf_sh (l : List Clm) (h0 : chkF l = 0) {F : List Int} (hF : F.length ≤ 400) (hn0 : F.Nodup) (hall : ∀ v, v ∈ F → badF (onlyF l (inB F (updB (fun _ => true) v false))) = false) {b : Nat} {h : Heap} (gb : h.get b = some (.map (mapK F fun _ => true))) (bn : b < h.next) (hf : h.Fr) {n : Nat} (hn : 7000 ≤ n) :
    ∃ h', (rc pg n).fn 84 [intsD F, TrD (clsD l) b] h = some (.ret (D.bool false), h') ∧ h'.Fr := by
  obtain ⟨m, rfl, e⟩ := fn_body (pg := pg) (f := 84) (args := [intsD F, TrD (clsD l) b]) (h := h) (show 0 < n by omega) rfl rfl
  rw [e]
  obtain ⟨H, hH⟩ : ∃ H, H = (h.bump 9).bump 9 := ⟨_, rfl⟩
  obtain ⟨h2, r2, f2⟩ := iw_sh l h0 hF hn0 hall (b := b) (h := H) (by rw [hH]; simp [gb]) (by rw [hH]; simp; omega) (by rw [hH]; exact (hf.bump _).bump _) (n := m) (by omega)
  have c2 := call_sh (pg := pg) (f := 108) rfl r2
  obtain ⟨T, hT⟩ : ∃ T, T = TrD (clsD l) b := ⟨_, rfl⟩
  rw [← hT] at c2 ⊢
  simp only [intsD] at c2
  simp [k84, Env.v_ini, intsD, ← hH, c2]
  exact f2
theorem ok_by {c : Clm} (h : okF c = true) : 1 ≤ c.by_ := by
  unfold okF at h
  rw [Bool.and_eq_true, inR_eq (n := c.by_)] at h
  have := h.2
  simp at this
  omega
structure Least1 (l : List Clm) (F : List Int) : Prop where
  rise : Rise F
  sub : ∀ x, x ∈ F → x ∈ srcF l
  bad : badF (onlyF l (hasI F)) = true
  least : ∀ x, x ∈ F → badF (onlyF l (hasI (lessL F x))) = false
set_option maxHeartbeats 8000000 in
theorem checkc_run (l : List Clm) (h0 : chkF l = 0) {F : List Int} (q : Least1 l F) {n : Nat} (hn : 2000000 ≤ n) : pureCall (rc pg n) 39 [clsD l, intsD F] = some (.ret (D.int 0)) := by
  obtain ⟨m, rfl, e⟩ := body (pg := pg) (f := 39) (args := [clsD l, intsD F]) (show 0 < n by omega) rfl rfl
  rw [e]
  obtain ⟨hl1, hl2, hl3⟩ := chk_ok h0
  have hFn := rise_nodup q.rise
  have hSl := src_len l
  have hFl : F.length ≤ 400 := Nat.le_trans (rise_len _ _ q.rise (src_rise l) q.sub) (by omega)
  have ck := fun h => call_of (h := h) (pg := pg) (f := 29) rfl (cls_canon l) (@chk_run l m (by omega))
  rw [h0] at ck
  have hinB : ∀ w, inB F (fun _ => true) w = hasI F w := fun w => by rw [has_dec]; unfold inB; simp
  have hfb : badF (onlyF l (inB F fun _ => true)) = true := by
    rw [show onlyF l (inB F fun _ => true) = onlyF l (hasI F) from only_congr fun c _ => hinB c.by_]
    exact q.bad
  have hall : ∀ v, v ∈ F → badF (onlyF l (inB F (updB (fun _ => true) v false))) = false := fun v hv => by
    rw [show onlyF l (inB F (updB (fun _ => true) v false)) = onlyF l (hasI (lessL F v)) from only_congr fun c _ => by
      rw [has_dec]
      unfold inB updB lessL
      by_cases e : c.by_ = v
      · simp [e]
      · simp [e]]
    exact q.least v hv
  obtain ⟨H1, hH1⟩ : ∃ H, H = (((Heap.empty.bump 48).bump 48).bump 48).bump 48 := ⟨_, rfl⟩
  have hf1 : H1.Fr := by rw [hH1]; repeat' first | exact Heap.Fr.empty | apply Heap.Fr.bump
  obtain ⟨kb, h2, Z, r2, hZ, gk2, k2, k3, f2, u2⟩ := sources_sh l h0 hf1 (n := m) (by omega)
  have c2 := call_sh (pg := pg) (f := 32) rfl r2
  have oC : D.one (clsD l) = true := rfl
  have hcK : D.cells (clsD l) = [clsD l] := rfl
  have q1 := q.rise
  have hpos : ∀ hq : 0 < F.length, (-1 : Int) < F[0] := fun hq => by
    obtain ⟨c, hc, e⟩ := (src_mem l _).1 (q.sub _ (List.getElem_mem hq))
    have := ok_by (hl2 c hc)
    omega
  obtain ⟨K0, hK0⟩ : ∃ K0, K0 = clsD l := ⟨_, rfl⟩
  rw [← hK0] at ck c2 oC hcK ⊢
  simp [k39, Env.v_ini, ck, ← hH1, c2, intsD, ev_loop]
  refine Res.endsAfter (lp_rule 2000 (CcI K0 (srcF l) F Z kb (some l.length)) _ (cc_round K0 (srcF l) F Z (by omega) hFl q.rise q.sub kb (some l.length)) F.length m _ (by omega) ⟨_, _, 0, -1, rfl, by omega, by simp [Env.v_ini], by simp [Env.v_ini, intsD], by simp, by simp, by simp [intsD], by simp, by simp, by simp [gk2], hpos, by repeat' first | exact f2 | apply Heap.Fr.bump⟩) ?_
  rintro x s ⟨rfl, x, h3, i, la, rfl, hi, v0, v1, v6, v7, v18, v19, v20, gk3, _, f3⟩
  obtain ⟨b, h4, r4, gb4, b4, f4, b5, u4⟩ := set_sh F (by omega) (h := h3.bump 48) (f3.bump _) (n := m) (by omega)
  have c4 := call_sh (pg := pg) (f := 75) rfl r4
  rw [setF_id hFn, mapD_K] at gb4
  have hb5 : h3.next + 48 ≤ b := by simpa using b5
  have hu4 : h3.next + 48 ≤ h4.next := by simpa using u4.1
  have hr4 : h4.raw (h3.next + 10) = none := by rw [u4.2 (h3.next + 10) (by simp)]; simp [f3 (h3.next + 10) (by omega)]
  have o2 : D.one (.mapr b) = true := rfl
  have hcm : D.cells (.mapr b) = [.mapr b] := rfl
  have hca : ∀ cs, D.cells (.agg cs) = cs := fun _ => rfl
  have n1 : (b = h3.next + 10) = False := by simp; omega
  obtain ⟨H5, hH5⟩ : ∃ H, H = (((h4.set (h3.next + 10) (some (.cells 105 [.val (.slice none 0 0), .val (.map none)]))).set (h3.next + 10) (some (.cells 105 [K0, .mapr b]))).bump 48) := ⟨_, rfl⟩
  have g5 : H5.get (h3.next + 10) = some (.cells 105 [K0, .mapr b]) := by rw [hH5]; simp
  have g5b : H5.get b = some (.map (mapK F fun _ => true)) := by rw [hH5]; simp [n1, gb4]
  have hf5 : H5.Fr := by
    rw [hH5]
    repeat' first | exact f4 | apply Heap.Fr.bump | apply Heap.Fr.set
    all_goals first | omega | (simp <;> omega)
  have c76 := fails_call l h0 F (fun _ => true) g5b (n := m) (by omega)
  rw [hfb] at c76
  obtain ⟨h6, r6, f6⟩ := cf_sh l h0 hFl hFn hall (b := b) (h := H5) g5b (by rw [hH5]; simp; omega) hf5 (n := m) (by omega)
  have c84 := call_sh (pg := pg) (f := 84) rfl r6
  simp only [TrD] at c84
  rw [← hK0] at c76 c84
  obtain ⟨DF, hDF⟩ : ∃ D, D = intsD F := ⟨_, rfl⟩
  rw [← hDF] at v1 c4 c84
  simp [v0, v1, c4, hcK, hcm, hca, oC, o2, hr4, ← hH5, g5, c76, c84]
end Go.Proofs.YtppfjkebamegnaaDoor
/- Least conflicts: the law, by the evaluator. -/
namespace Go.Proofs.YtppfjkebamegnaaDoor
open Go Go.Em Go.Em.Net
set_option maxRecDepth 100000
theorem frz_inF {H : Heap} {kb d : Nat} {F : List Int} {c0 : Option Nat} (g : InF H kb F) : frz H (d + 2) (.slr kb 0 F.length 1 c0) = some (intsD F, [kb]) := by
  obtain ⟨W, w1, w2, w3⟩ := g
  rw [frz_slr, w1, frzS_cells]
  have hle : 0 + F.length * 1 ≤ W.length ∧ 0 < 1 := by omega
  have htk : (W.drop 0).take (F.length * 1) = F.map D.int := by rw [List.drop_zero, Nat.mul_one]; exact w2
  rw [if_pos hle, htk, each_canon H d _ (ints_canonL F)]
  simp only [Option.map_some]
  rw [chunk_ints]; rfl
theorem least1_left (l : List Clm) (h0 : chkF l = 0) (hb : badF l = true) : Least1 l (leftF l) := by
  refine ⟨left_rise l, fun x hx => left_sub l hx, ?_, fun x hx => ?_⟩
  · rw [leftF_D]; exact leftD_bad l hb _
  · rw [leftF_D] at hx ⊢
    exact leftD_least l h0 hx
theorem conE_ok {l : List Clm} (h : conE l = 0) : chkF l = 0 ∧ badF l = true := by
  unfold conE at h
  by_cases h0 : chkF l = 0
  · rw [if_neg (by omega)] at h
    refine ⟨h0, ?_⟩
    cases hb : badF l with
    | true => rfl
    | false => rw [hb, if_pos rfl] at h; omega
  · rw [if_pos h0] at h; exact absurd h h0
set_option maxHeartbeats 8000000 in
theorem confl_law (l : List Clm) {n : Nat} (hn : 3000000 ≤ n) : pureCall (rc pg n) 8 [clsD l] = some (.ret (.val (.bool true))) := by
  obtain ⟨m, rfl, e⟩ := body (pg := pg) (f := 8) (args := [clsD l]) (show 0 < n by omega) rfl rfl
  rw [e]
  have hs := fun h => @sane_call m (by omega) h
  obtain ⟨H1, hH1⟩ : ∃ H, H = (Heap.empty.bump 42).bump 42 := ⟨_, rfl⟩
  have hf1 : H1.Fr := by rw [hH1]; repeat' first | exact Heap.Fr.empty | apply Heap.Fr.bump
  obtain ⟨d, h2, r2, q1, q2, f2, _⟩ := conflict_sh l hf1 (n := m) (by omega)
  have c37 := call_sh (pg := pg) (f := 37) rfl r2
  have c38 := fun h => call_of (h := h) (pg := pg) (f := 38) rfl (cls_canon l) (@rconf_run l m (by omega))
  obtain ⟨C, hC⟩ : ∃ C, C = clsD l := ⟨_, rfl⟩
  by_cases he : conE l = 0
  · obtain ⟨h0, hb⟩ := conE_ok he
    obtain ⟨kb, c0, rfl, gi⟩ := q2 he
    rw [he] at c37 c38
    rw [if_pos rfl, ← leftF_D] at c38
    have hls := left_some l hb
    have hll : (leftF l).length ≤ 4000 := by
      obtain ⟨k1, _, _⟩ := chk_ok h0
      have := src_len l
      have : (leftF l).length ≤ (srcF l).length := List.length_filter_le _ _
      omega
    have lq := least1_left l h0 hb
    obtain ⟨F, hF⟩ : ∃ F, F = leftF l := ⟨_, rfl⟩
    rw [← hF] at c37 c38 gi hls hll lq
    have sm := fun (H : Heap) (g : InF H kb F) => callfzg (pg := pg) (f := 30) (R := rc pg m) (a := .slr kb 0 F.length 1 c0) (args := [intsD F]) (bs := [intsD F, intsD F]) (ks := [kb]) (h := H) rfl (by
      have z1 : frz H 24 (.slr kb 0 F.length 1 c0) = _ := frz_inF (d := 22) g
      have z2 : frz H 24 (intsD F) = some (intsD F, []) := frz_can (n := 23) (by simp [intsD, ints_canonL])
      show each (frz H 24) _ = _
      simp only [each_cons, each_nil, z1, z2, eachK_some]
      rfl) (sameI_run F F hll (n := m) (by omega)) rfl
    have cc := fun (H : Heap) (g : InF H kb F) => callfzg (pg := pg) (f := 39) (R := rc pg m) (a := clsD l) (args := [.slr kb 0 F.length 1 c0]) (bs := [clsD l, intsD F]) (ks := [kb]) (h := H) rfl (by
      have z1 : frz H 24 (.slr kb 0 F.length 1 c0) = _ := frz_inF (d := 22) g
      have z2 : frz H 24 (clsD l) = some (clsD l, []) := frz_can (n := 23) (by simp [clsD, canonL_map clD cl_canon l])
      show each (frz H 24) _ = _
      simp only [each_cons, each_nil, z1, z2, eachK_some]
      rfl) (checkc_run l h0 lq (n := m) (by omega)) rfl
    have hsf : sameF F F = true := by unfold sameF; simp
    rw [hsf] at sm
    have gib : ∀ (H : Heap) (z : Nat), InF H kb F → InF (H.bump z) kb F := fun H z g => by
      obtain ⟨W, w1, w2, w3⟩ := g
      exact ⟨W, by simp [w1], w2, w3⟩
    have hpos : 0 < F.length := List.length_pos_iff.2 hls
    obtain ⟨DF, hDF⟩ : ∃ D, D = intsD F := ⟨_, rfl⟩
    rw [← hC] at c37 c38 cc ⊢
    rw [← hDF] at c38 sm
    have s1 := sm ((h2.bump 42).bump 42) (gib _ _ (gib _ _ gi))
    have s2 := cc (((h2.bump 42).bump 42).bump 42) (gib _ _ (gib _ _ (gib _ _ gi)))
    simp [k8, Env.v_ini, ← hH1, c37, c38, s1, s2, hs, hpos]
  · obtain rfl := q1 he
    rw [if_neg he] at c38
    have he' : (conE l != 0) = true := by simpa using he
    have sm := fun (H : Heap) => callfzg (pg := pg) (f := 30) (R := rc pg m) (a := .val (.slice none 0 0)) (args := [intsD []]) (bs := [intsD [], intsD []]) (ks := []) (h := H) rfl rfl (sameI_run [] [] (by simp) (n := m) (by simp; omega)) rfl
    have hsf : sameF [] [] = true := rfl
    rw [hsf] at sm
    rw [← hC] at c37 c38 ⊢
    obtain ⟨DF, hDF⟩ : ∃ D, D = intsD [] := ⟨_, rfl⟩
    rw [← hDF] at c38 sm
    simp [-bne_iff_ne, k8, Env.v_ini, ← hH1, c37, c38, sm, hs, he']
end Go.Proofs.YtppfjkebamegnaaDoor
