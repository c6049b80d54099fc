/- Whether sources are a least conflict, by the program: for whatever sources. -/
import Derived.Test.YtgbkdjlekfjkfaaGreatDoorCs1
namespace Go.Proofs.YtgbkdjlekfjkfaaGreatDoor
open Go Go.Em Go.Em.Net
set_option maxRecDepth 100000
def goodF (S : List Int) : Int → List Int → Bool
  | _, [] => true
  | la, v :: r => decide (la < v) && hasI S v && goodF S v r
theorem good_spec {S : List Int} : ∀ {la : Int} {F : List Int}, goodF S la F = true → Rise F ∧ (∀ x ∈ F, x ∈ S) ∧ ∀ x ∈ F, la < x
  | _, [], _ => ⟨List.Pairwise.nil, fun _ h => absurd h List.not_mem_nil, fun _ h => absurd h List.not_mem_nil⟩
  | la, v :: r, h => by
    rw [goodF, Bool.and_eq_true, Bool.and_eq_true] at h
    obtain ⟨⟨h1, h2⟩, h3⟩ := h
    obtain ⟨r1, r2, r3⟩ := good_spec h3
    have hlv := of_decide_eq_true h1
    refine ⟨List.pairwise_cons.2 ⟨r3, r1⟩, fun x hx => ?_, fun x hx => ?_⟩
    · rcases List.mem_cons.1 hx with rfl | hx
      · exact hasI_mem.1 h2
      · exact r2 x hx
    · rcases List.mem_cons.1 hx with rfl | hx
      · exact hlv
      · have := r3 x hx; omega
theorem good_of {S : List Int} : ∀ {la : Int} {F : List Int}, Rise F → (∀ x ∈ F, x ∈ S) → (∀ x ∈ F, la < x) → goodF S la F = true
  | _, [], _, _, _ => rfl
  | la, v :: r, h1, h2, h3 => by
    obtain ⟨p1, p2⟩ := List.pairwise_cons.1 h1
    rw [goodF, decide_eq_true (h3 v List.mem_cons_self), hasI_mem.2 (h2 v List.mem_cons_self), good_of p2 (fun x hx => h2 x (List.mem_cons_of_mem _ hx)) p1]
    rfl
def CgI (C0 : D) (S F : List Int) (Z : List Int) (kb : Nat) (c0 : Option Nat) (k : Nat) (s : St) : Prop := ∃ (x : Env 48) (h : Heap) (i : Nat) (la : Int), s = ⟨x.l, h, []⟩ ∧ i + k = F.length ∧ x.v 0 = C0 ∧ x.v 1 = intsD F ∧ x.v 6 = .slr kb 0 S.length 1 c0 ∧ x.v 7 = D.int la ∧ x.v 18 = intsD F ∧ x.v 19 = D.int F.length ∧ x.v 20 = D.int i ∧ h.get kb = some (.cells 3 ((S ++ Z).map D.int)) ∧ goodF S (-1) F = goodF S la (F.drop i) ∧ h.Fr
def CgQ (C0 : D) (S F : List Int) (x : Ex) (s : St) : Prop := (x = .exit 0 ∧ goodF S (-1) F = true ∧ ∃ (x : Env 48) (h : Heap), s = ⟨x.l, h, []⟩ ∧ x.v 0 = C0 ∧ x.v 1 = intsD F ∧ h.Fr) ∨ (x = .ret ∧ goodF S (-1) F = false ∧ ∃ (x : Env 48) (h : Heap), s = ⟨x.l, h, []⟩ ∧ x.v 4 = D.int 24)
set_option maxHeartbeats 4000000 in
theorem cg_round (C0 : D) (S F Z : List Int) (hS : S.length ≤ 400) (hF : F.length ≤ 20000000000000) (kb : Nat) (c0 : Option Nat) : ∀ n, 2000 ≤ n → ∀ k s, CgI C0 S F Z kb c0 k s → Res (k18l0.ev ⟨pg, 48, none⟩ (rc pg n) s) (Rnd (CgI C0 S F Z kb c0) (CgQ C0 S F) k) := by
  rintro n hn k s ⟨x, h, i, la, rfl, hik, v0, v1, v6, v7, v18, v19, v20, gk, hg, hf⟩
  simp only [intsD] at v18
  by_cases hi : i < F.length
  · obtain ⟨v, hv⟩ : ∃ v, F[i] = v := ⟨_, rfl⟩
    have hd : F.drop i = v :: F.drop (i + 1) := by rw [List.drop_eq_getElem_cons hi, hv]
    rw [hd, goodF] at hg
    have w1 : IntKind.i64.wrap ((i : Int) + 1) = (i : Int) + 1 := wrap_i64 (by omega) (by omega)
    have cc := fun (H : Heap) (g : H.get kb = some (.cells 3 ((S ++ Z).map D.int))) => contains_call (by omega) (c0 := c0) g v hn
    obtain ⟨W, hW⟩ : ∃ W, W = (S ++ Z).map D.int := ⟨_, rfl⟩
    rw [← hW] at gk cc
    by_cases hle : v ≤ la
    · rw [decide_eq_false (by omega)] at hg
      simp [k18l0, v6, v7, v18, v19, v20, hi, hv, D.cells, hle]
      exact .inr ⟨rfl, by rw [hg]; rfl, _, _, rfl, by simp⟩
    · rw [decide_eq_true (by omega), Bool.true_and] at hg
      cases hb : hasI S v with
      | false =>
        rw [hb] at cc hg
        simp [k18l0, v6, v7, v18, v19, v20, hi, hv, D.cells, hle, cc, gk]
        exact .inr ⟨rfl, by rw [hg]; rfl, _, _, rfl, by simp⟩
      | true =>
        rw [hb, Bool.true_and] at hg
        rw [hb] at cc
        simp [k18l0, v6, v7, v18, v19, v20, hi, hv, D.cells, hle, cc, gk, w1]
        exact ⟨k - 1, by omega, _, _, i + 1, v, rfl, by omega, by simp [v0], by simp [v1], by simp [v6], by simp, by simp [v18, intsD], by simp [v19], by simp, by simp [gk, hW], hg, by repeat' first | exact hf | apply Heap.Fr.bump⟩
  · have hiF : i = F.length := by omega
    rw [hiF, List.drop_length, goodF] at hg
    simp [k18l0, v19, v20, hi]
    exact .inl ⟨rfl, hg, _, _, rfl, by simp [v0], by simp [v1], hf.bump _⟩
def IgQ (l : List Clm) (F : List Int) (x : Ex) (s : St) : Prop := (x = .exit 0 ∧ (F.any fun v => badF (onlyF l (inB F (updB (fun _ => true) v false)))) = false ∧ ∃ (x : Env 19) (h : Heap), s = ⟨x.l, h, []⟩ ∧ h.Fr) ∨ (x = .ret ∧ (F.any fun v => badF (onlyF l (inB F (updB (fun _ => true) v false)))) = true ∧ ∃ (x : Env 19) (h : Heap) (j : Nat), s = ⟨x.l, h, []⟩ ∧ x.v 4 = D.int j ∧ h.Fr)
def IgI (l : List Clm) (F : List Int) (b : Nat) (k : Nat) (s : St) : Prop := ∃ (x : Env 19) (h : Heap) (i : Nat), s = ⟨x.l, h, []⟩ ∧ i + k = F.length ∧ x.v 0 = intsD F ∧ x.v 1 = TrD (clsD l) b ∧ x.v 7 = D.int F.length ∧ x.v 8 = D.int i ∧ h.get b = some (.map (mapK F fun _ => true)) ∧ b < h.next ∧ h.Fr ∧ (F.any fun v => badF (onlyF l (inB F (updB (fun _ => true) v false)))) = ((F.drop i).any fun v => badF (onlyF l (inB F (updB (fun _ => true) v false))))
set_option maxHeartbeats 4000000 in
theorem ig_round (l : List Clm) (h0 : chkF l = 0) {F : List Int} (hF : F.length ≤ 400) (hn0 : F.Nodup) (b : Nat) : ∀ n, 5000 ≤ n → ∀ k s, IgI l F b k s → Res (k117l0.ev ⟨pg, 19, none⟩ (rc pg n) s) (Rnd (IgI l F b) (IgQ l F) k) := by
  rintro n hn k s ⟨x, h, i, rfl, hik, v0, v1, v7, v8, gb, bn, hf, ha⟩
  simp only [intsD] at v0
  simp only [TrD] at v1
  by_cases hi : i < F.length
  · obtain ⟨v, hv⟩ : ∃ v, F[i] = v := ⟨_, rfl⟩
    have hd : F.drop i = v :: F.drop (i + 1) := by rw [List.drop_eq_getElem_cons hi, hv]
    rw [hd, List.any_cons] at ha
    have hvF : v ∈ F := by rw [← hv]; exact List.getElem_mem hi
    have w1 : IntKind.i64.wrap ((i : Int) + 1) = (i : Int) + 1 := wrap_i64 (by omega) (by omega)
    obtain ⟨H, hH⟩ : ∃ H, H = ((h.bump 19).bump 19).bump 19 := ⟨_, rfl⟩
    obtain ⟨h2, r2, g2, f2, n2, _⟩ := fw_sh l h0 hn0 (fun _ => true) hvF (b := b) (h := H) (by rw [hH]; simp [gb]) (by rw [hH]; simp; omega) (by rw [hH]; repeat' first | exact hf | apply Heap.Fr.bump) (n := n) (by omega)
    rw [updB_same (fun _ => true) v rfl] at g2
    have c2 := call_sh (pg := pg) (f := 72) rfl r2
    have hb2 : b < h2.next := by
      have : H.next = h.next + 19 + 19 + 19 := by rw [hH]; simp
      omega
    obtain ⟨C, hC⟩ : ∃ C, C = clsD l := ⟨_, rfl⟩
    rw [← hC] at v1 c2
    cases hb : badF (onlyF l (inB F (updB (fun _ => true) v false))) with
    | true =>
      rw [hb] at c2 ha
      simp [k117l0, v0, v1, v7, v8, hi, hv, D.cells, ← hH, c2]
      exact .inr ⟨rfl, by rw [ha]; rfl, _, _, i, rfl, by simp, f2.bump _⟩
    | false =>
      rw [hb, Bool.false_or] at ha
      rw [hb] at c2
      simp [k117l0, v0, v1, v7, v8, hi, hv, D.cells, ← hH, c2, w1]
      exact ⟨k - 1, by omega, _, _, i + 1, rfl, by omega, by simp [v0, intsD], by simp [v1, TrD, hC], by simp [v7], by simp, by simp [g2], by simp; omega, f2.bump _, ha⟩
  · have hiF : i = F.length := by omega
    rw [hiF, List.drop_length] at ha
    simp [k117l0, v7, v8, hi]
    exact .inl ⟨rfl, ha, _, _, rfl, hf.bump _⟩
end Go.Proofs.YtgbkdjlekfjkfaaGreatDoor
/- Whether sources are a least conflict, by the program: for whatever sources; the function. -/
namespace Go.Proofs.YtgbkdjlekfjkfaaGreatDoor
open Go Go.Em Go.Em.Net
set_option maxRecDepth 100000
set_option maxHeartbeats 4000000 in
theorem ig_sh (l : List Clm) (h0 : chkF l = 0) {F : List Int} (hF : F.length ≤ 400) (hn0 : F.Nodup) {b : Nat} {h : Heap} (gb : h.get b = some (.map (mapK F fun _ => true))) (bn : b < h.next) (hf : h.Fr) {n : Nat} (hn : 6000 ≤ n) :
    ∃ (z : Int) (h' : Heap), (rc pg n).fn 117 [intsD F, TrD (clsD l) b] h = some (.ret (D.int z), h') ∧ (h'.Fr ∧ decide (z ≥ 0) = F.any fun v => badF (onlyF l (inB F (updB (fun _ => true) v false)))) := by
  obtain ⟨m, rfl, e⟩ := fn_body (pg := pg) (f := 117) (args := [intsD F, TrD (clsD l) b]) (h := h) (show 0 < n by omega) rfl rfl
  rw [e]
  simp [-ge_iff_le, -Int.not_lt, k117, Env.v_ini, intsD, ev_loop]
  refine Res.tailG (F := fun z : Int => D.int z) (C := fun (z : Int) (h' : Heap) => h'.Fr ∧ decide (z ≥ 0) = F.any fun v => badF (onlyF l (inB F (updB (fun _ => true) v false)))) (lp_rule 5000 (IgI l F b) _ (ig_round l h0 hF hn0 b) F.length m _ (by omega) ⟨_, _, 0, rfl, by omega, by simp [Env.v_ini, intsD], by simp [Env.v_ini], by simp, by simp, by simp [gb], by simp; omega, by repeat' first | exact hf | apply Heap.Fr.bump, rfl⟩) ?_
  rintro x s (⟨rfl, ha, x, h1, rfl, f1⟩ | ⟨rfl, ha, x, h1, j, rfl, v4, f1⟩)
  · rw [ha]
    simp
    exact ⟨-1, _, ⟨rfl, rfl⟩, f1.bump _, by simp⟩
  · rw [ha]
    simp [v4]
    exact ⟨j, _, ⟨rfl, rfl⟩, f1, by omega⟩
theorem cg_sh (l : List Clm) (h0 : chkF l = 0) {F : List Int} (hF : F.length ≤ 400) (hn0 : F.Nodup) {b : Nat} {h : Heap} (gb : h.get b = some (.map (mapK F fun _ => true))) (bn : b < h.next) (hf : h.Fr) {n : Nat} (hn : 7000 ≤ n) :
    ∃ h', (rc pg n).fn 71 [intsD F, TrD (clsD l) b] h = some (.ret (D.bool (F.any fun v => badF (onlyF l (inB F (updB (fun _ => true) v false))))), h') ∧ h'.Fr := by
  obtain ⟨m, rfl, e⟩ := fn_body (pg := pg) (f := 71) (args := [intsD F, TrD (clsD l) b]) (h := h) (show 0 < n by omega) rfl rfl
  rw [e]
  obtain ⟨H, hH⟩ : ∃ H, H = (h.bump 9).bump 9 := ⟨_, rfl⟩
  obtain ⟨z, h2, r2, f2, hz⟩ := ig_sh l h0 hF hn0 (b := b) (h := H) (by rw [hH]; simp [gb]) (by rw [hH]; simp; omega) (by rw [hH]; exact (hf.bump _).bump _) (n := m) (by omega)
  have c2 := call_sh (pg := pg) (f := 117) rfl r2
  obtain ⟨T, hT⟩ : ∃ T, T = TrD (clsD l) b := ⟨_, rfl⟩
  rw [← hT] at c2 ⊢
  rw [← hz]
  simp only [intsD] at c2
  simp [k71, Env.v_ini, intsD, ← hH, c2]
  exact f2
def ccF (l : List Clm) (F : List Int) : Int := if chkF l ≠ 0 then chkF l else if goodF (srcF l) (-1) F = false then 24 else if badF (onlyF l (hasI F)) = false then 24 else if (F.any fun v => badF (onlyF l (hasI (lessL F v)))) = true then 24 else 0
theorem only_inB (l : List Clm) (F : List Int) : onlyF l (inB F fun _ => true) = onlyF l (hasI F) := only_congr fun c _ => by rw [has_dec]; unfold inB; simp
theorem only_upd (l : List Clm) (F : List Int) (v : Int) : onlyF l (inB F (updB (fun _ => true) v false)) = onlyF l (hasI (lessL F v)) := only_congr fun c _ => by
  rw [has_dec]
  unfold inB updB lessL
  by_cases e : c.by_ = v
  · simp [e]
  · simp [e]
set_option maxHeartbeats 8000000 in
theorem checkg_run (l : List Clm) (F : List Int) (hFl : F.length ≤ 20000000000000) {n : Nat} (hn : F.length + 2000000 ≤ n) : pureCall (rc pg n) 18 [clsD l, intsD F] = some (.ret (D.int (ccF l F))) := by
  obtain ⟨m, rfl, e⟩ := body (pg := pg) (f := 18) (args := [clsD l, intsD F]) (show 0 < n by omega) rfl rfl
  rw [e]
  have ck := fun h => call_of (h := h) (pg := pg) (f := 38) rfl (cls_canon l) (@chk_run l m (by omega))
  by_cases h0 : chkF l = 0
  · rw [h0] at ck
    obtain ⟨hl1, hl2, hl3⟩ := chk_ok h0
    have hSl := src_len l
    have hce : ccF l F = if goodF (srcF l) (-1) F = false then 24 else if badF (onlyF l (hasI F)) = false then 24 else if (F.any fun v => badF (onlyF l (hasI (lessL F v)))) = true then 24 else 0 := by unfold ccF; rw [if_neg (by omega)]
    obtain ⟨B1, hB1⟩ : ∃ B, B = badF (onlyF l (hasI F)) := ⟨_, rfl⟩
    obtain ⟨B2, hB2⟩ : ∃ B, B = (F.any fun v => badF (onlyF l (hasI (lessL F v)))) := ⟨_, rfl⟩
    rw [← hB1, ← hB2] at hce
    obtain ⟨H1, hH1⟩ : ∃ H, H = (((Heap.empty.bump 48).bump 48).bump 48).bump 48 := ⟨_, rfl⟩
    have hf1 : H1.Fr := by rw [hH1]; repeat' first | exact Heap.Fr.empty | apply Heap.Fr.bump
    obtain ⟨kb, h2, Z, r2, hZ, gk2, k2, k3, f2, u2⟩ := sources_sh l h0 hf1 (n := m) (by omega)
    have c2 := call_sh (pg := pg) (f := 67) rfl r2
    have oC : D.one (clsD l) = true := rfl
    have hcK : D.cells (clsD l) = [clsD l] := rfl
    obtain ⟨K0, hK0⟩ : ∃ K0, K0 = clsD l := ⟨_, rfl⟩
    rw [hce]
    rw [← hK0] at ck c2 oC hcK ⊢
    simp [-Bool.not_eq_true, k18, Env.v_ini, ck, ← hH1, c2, intsD, ev_loop]
    refine Res.endsAfter (lp_rule 2000 (CgI K0 (srcF l) F Z kb (some l.length)) _ (cg_round K0 (srcF l) F Z (by omega) hFl kb (some l.length)) F.length m _ (by omega) ⟨_, _, 0, -1, rfl, by omega, by simp [Env.v_ini], by simp [Env.v_ini, intsD], by simp, by simp, by simp [intsD], by simp, by simp, by simp [gk2], rfl, by repeat' first | exact f2 | apply Heap.Fr.bump⟩) ?_
    rintro x s (⟨rfl, hg, x, h3, rfl, v0, v1, f3⟩ | ⟨rfl, hg, x, h3, rfl, v4⟩)
    · rw [if_neg (by simp [hg])]
      obtain ⟨hR, hsub, _⟩ := good_spec hg
      have hFn := rise_nodup hR
      have hF4 : F.length ≤ 400 := Nat.le_trans (rise_len _ _ hR (src_rise l) hsub) (by omega)
      obtain ⟨b, h4, r4, gb4, b4, f4, b5, u4⟩ := set_sh F (by omega) (h := h3.bump 48) (f3.bump _) (n := m) (by omega)
      have c4 := call_sh (pg := pg) (f := 69) rfl r4
      rw [setF_id hFn, mapD_K] at gb4
      have hb5 : h3.next + 48 ≤ b := by simpa using b5
      have hu4 : h3.next + 48 ≤ h4.next := by simpa using u4.1
      have hr4 : h4.raw (h3.next + 10) = none := by rw [u4.2 (h3.next + 10) (by simp)]; simp [f3 (h3.next + 10) (by omega)]
      have o2 : D.one (.mapr b) = true := rfl
      have hcm : D.cells (.mapr b) = [.mapr b] := rfl
      have hca : ∀ cs, D.cells (.agg cs) = cs := fun _ => rfl
      have n1 : (b = h3.next + 10) = False := by simp; omega
      obtain ⟨H5, hH5⟩ : ∃ H, H = (((h4.set (h3.next + 10) (some (.cells 117 [.val (.slice none 0 0), .val (.map none)]))).set (h3.next + 10) (some (.cells 117 [K0, .mapr b]))).bump 48) := ⟨_, rfl⟩
      have g5 : H5.get (h3.next + 10) = some (.cells 117 [K0, .mapr b]) := by rw [hH5]; simp
      have g5b : H5.get b = some (.map (mapK F fun _ => true)) := by rw [hH5]; simp [n1, gb4]
      have hf5 : H5.Fr := by
        rw [hH5]
        repeat' first | exact f4 | apply Heap.Fr.bump | apply Heap.Fr.set
        all_goals first | omega | (simp <;> omega)
      have c76 := fails_call l h0 F (fun _ => true) g5b (n := m) (by omega)
      rw [only_inB] at c76
      obtain ⟨h6, r6, f6⟩ := cg_sh l h0 hF4 hFn (b := b) (h := H5) g5b (by rw [hH5]; simp; omega) hf5 (n := m) (by omega)
      have c84 := call_sh (pg := pg) (f := 71) rfl r6
      have hany : (F.any fun v => badF (onlyF l (inB F (updB (fun _ => true) v false)))) = F.any fun v => badF (onlyF l (hasI (lessL F v))) := by
        congr 1
        funext v
        rw [only_upd]
      rw [hany] at c84
      simp only [TrD] at c84
      rw [← hK0] at c76 c84
      obtain ⟨DF, hDF⟩ : ∃ D, D = intsD F := ⟨_, rfl⟩
      rw [← hDF] at v1 c4 c84
      rw [← hB1] at c76
      rw [← hB2] at c84
      cases B1 with
      | false => simp [v0, v1, c4, hcK, hcm, hca, oC, o2, hr4, ← hH5, g5, c76]
      | true =>
        cases B2 with
        | false => simp [v0, v1, c4, hcK, hcm, hca, oC, o2, hr4, ← hH5, g5, c76, c84]
        | true => simp [v0, v1, c4, hcK, hcm, hca, oC, o2, hr4, ← hH5, g5, c76, c84]
    · rw [if_pos hg]
      simp [v4]
  · have h0' : (chkF l != 0) = true := by simpa using h0
    have hce : ccF l F = chkF l := by unfold ccF; rw [if_pos h0]
    rw [hce]
    obtain ⟨K0, hK0⟩ : ∃ K0, K0 = clsD l := ⟨_, rfl⟩
    rw [← hK0] at ck ⊢
    simp [-bne_iff_ne, k18, Env.v_ini, ck, h0']
end Go.Proofs.YtgbkdjlekfjkfaaGreatDoor
