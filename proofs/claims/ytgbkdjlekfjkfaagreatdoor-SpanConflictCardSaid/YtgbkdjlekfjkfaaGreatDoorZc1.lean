/- Whether sources are a least conflict, by the document: what it answers. -/
import Derived.Test.YtgbkdjlekfjkfaaGreatDoorCt1
import Derived.Test.YtgbkdjlekfjkfaaGreatDoorCr1
import Derived.Test.YtgbkdjlekfjkfaaGreatDoorRoom
import Derived.Test.YtgbkdjlekfjkfaaGreatDoorWo1
namespace Go.Proofs.YtgbkdjlekfjkfaaGreatDoor
open Go Go.Em Go.Em.Net
set_option maxRecDepth 100000
def rsB : List Int → Bool
  | a :: b :: l => decide (a < b) && rsB (b :: l)
  | _ => true
theorem rsB_step {M : List Int} {p : Nat} (h : p + 1 < M.length) : rsB (M.drop p) = (decide (M[p] < M[p + 1]) && rsB (M.drop (p + 1))) := by
  rw [List.drop_eq_getElem_cons (show p < M.length by omega), List.drop_eq_getElem_cons h, rsB]
theorem rsB_end {M : List Int} {p : Nat} (h : ¬ p + 1 < M.length) : rsB (M.drop p) = true := by
  by_cases h2 : p < M.length
  · rw [List.drop_eq_getElem_cons h2, List.drop_of_length_le (by omega)]; rfl
  · rw [List.drop_of_length_le (by omega)]; rfl
def RiI (M : List Int) (k : Nat) (s : St) : Prop := ∃ (x : Env 20) (h : Heap) (p q : Nat), s = ⟨x.l, h, []⟩ ∧ p + k = M.length ∧ q = p + 1 ∧ x.v 0 = intsD M ∧ x.v 3 = D.int q ∧ rsB M = rsB (M.drop p)
def RiQ (M : List Int) (x : Ex) (s : St) : Prop := (x = .exit 0 ∧ rsB M = true ∧ ∃ (x : Env 20) (h : Heap), s = ⟨x.l, h, []⟩) ∨ (x = .ret ∧ rsB M = false ∧ ∃ (x : Env 20) (h : Heap), s = ⟨x.l, h, []⟩ ∧ x.v 2 = D.bool false)
set_option maxHeartbeats 8000000 in
theorem ri_round {M : List Int} (hl : M.length ≤ 20000000000000) : ∀ n, 1 ≤ n → ∀ k s, RiI M k s → Res (k73l0.ev ⟨pg, 20, none⟩ (rc pg n) s) (Rnd (RiI M) (RiQ M) k) := by
  rintro n hn k s ⟨x, h, p, q, rfl, hpk, hpq, v0, v3, ho⟩
  simp only [intsD] at v0
  by_cases hq : q < M.length
  · rw [rsB_step (show p + 1 < M.length by omega)] at ho
    have w1 : IntKind.i64.wrap ((q : Int) + 1) = ((q + 1 : Nat) : Int) := by rw [wrap_i64 (by omega) (by omega)]; rfl
    have w2 : IntKind.i64.wrap ((q : Int) - 1) = (p : Int) := by rw [wrap_i64 (by omega) (by omega)]; omega
    have hp : p < M.length := by omega
    obtain ⟨u, hu⟩ : ∃ u, M[p] = u := ⟨_, rfl⟩
    obtain ⟨v, hv⟩ : ∃ v, M[q] = v := ⟨_, rfl⟩
    have hv' : M[p + 1] = v := by rw [← hv]; congr 1; omega
    rw [hu, hv'] at ho
    by_cases hlt : u < v
    · have hd : decide (u < v) = true := decide_eq_true hlt
      rw [hd, Bool.true_and] at ho
      have hge : ¬ (v ≤ u) := by omega
      simp [-Int.natCast_add, k73l0, v0, v3, hq, hp, w1, w2, D.cells, D.one, hge, hu, hv]
      exact ⟨k - 1, by omega, _, _, p + 1, q + 1, rfl, by omega, by omega, by simp [v0, intsD], by simp, ho⟩
    · have hd : decide (u < v) = false := decide_eq_false hlt
      rw [hd, Bool.false_and] at ho
      have hge : v ≤ u := by omega
      simp [k73l0, v0, v3, hq, hp, w2, D.cells, D.one, hge, hu, hv]
      exact .inr ⟨rfl, ho, _, _, rfl, by simp⟩
  · rw [rsB_end (show ¬ p + 1 < M.length by omega)] at ho
    simp [k73l0, v0, v3, hq]
    exact .inl ⟨rfl, ho, _, _, rfl⟩
theorem rsg_run {M : List Int} (hl : M.length ≤ 20000000000000) {n : Nat} (hn : M.length + 10 ≤ n) : pureCall (rc pg n) 73 [intsD M] = some (.ret (D.bool (rsB M))) := by
  obtain ⟨m, rfl, e⟩ := body (pg := pg) (f := 73) (args := [intsD M]) (show 0 < n by omega) rfl rfl
  rw [e]
  simp [k73, Env.v_ini, ev_loop]
  refine Res.endsAfter (lp_rule 1 (RiI M) _ (ri_round hl) M.length m _ (by omega) ⟨_, _, 0, 1, rfl, by omega, rfl, by simp [Env.v_ini], by simp, by simp⟩) ?_
  rintro x s (⟨rfl, ho, x, h, rfl⟩ | ⟨rfl, ho, x, h, rfl, v2⟩)
  · rw [ho]; simp
  · rw [ho]; simp [v2]

theorem rsB_rise : ∀ {F : List Int}, rsB F = true → Rise F
  | [], _ => List.Pairwise.nil
  | [a], _ => List.pairwise_singleton _ _
  | a :: b :: l, h => by
    rw [rsB, Bool.and_eq_true] at h
    have h1 := of_decide_eq_true h.1
    have r := rsB_rise h.2
    refine List.pairwise_cons.2 ⟨fun x hx => ?_, r⟩
    rcases List.mem_cons.1 hx with rfl | hx
    · exact h1
    · have := (List.pairwise_cons.1 r).1 x hx
      omega
theorem rise_rsB : ∀ {F : List Int}, Rise F → rsB F = true
  | [], _ => rfl
  | [_], _ => rfl
  | a :: b :: l, h => by
    obtain ⟨h1, h2⟩ := List.pairwise_cons.1 h
    rw [rsB, decide_eq_true (h1 b List.mem_cons_self), rise_rsB h2]; rfl
def oneB (l : List Clm) (F : List Int) (v : Int) : Bool := hasI (srcF l) v && !badF (onlyF l (hasI (lessL F v)))
def rcF (l : List Clm) (F : List Int) : Int := if chkF l ≠ 0 then chkF l else if rsB F = false then 24 else if badF (onlyF l (hasI F)) = false then 24 else if F.all (oneB l F) = false then 24 else 0
theorem rc_cc (l : List Clm) (F : List Int) : rcF l F = ccF l F := by
  unfold rcF ccF
  by_cases h0 : chkF l = 0
  · have hn0 : ¬ chkF l ≠ 0 := fun h => h h0
    rw [if_neg hn0, if_neg hn0]
    cases hg : goodF (srcF l) (-1) F with
    | true =>
      obtain ⟨hR, hs, _⟩ := good_spec hg
      have e1 : ¬ (true = false) := by simp
      rw [rise_rsB hR, if_neg e1, if_neg e1]
      have e : (F.all (oneB l F) = false) ↔ ((F.any fun v => badF (onlyF l (hasI (lessL F v)))) = true) := by
        rw [List.all_eq_false, List.any_eq_true]
        constructor
        · rintro ⟨v, hv, h⟩
          refine ⟨v, hv, ?_⟩
          unfold oneB at h
          rw [hasI_mem.2 (hs v hv), Bool.true_and] at h
          simpa using h
        · rintro ⟨v, hv, h⟩
          refine ⟨v, hv, ?_⟩
          unfold oneB
          rw [h]; simp
      by_cases ha : F.all (oneB l F) = false
      · rw [if_pos ha, if_pos (e.1 ha)]
      · rw [if_neg ha, if_neg fun h => ha (e.2 h)]
    | false =>
      rw [if_pos rfl]
      by_cases hr : rsB F = false
      · rw [if_pos hr]
      · have hR := rsB_rise (by simpa using hr)
        have ha : F.all (oneB l F) = false := by
          cases ha : F.all (oneB l F) with
          | false => rfl
          | true =>
            have hs : ∀ x ∈ F, x ∈ srcF l := fun x hx => by
              have h := List.all_eq_true.1 ha x hx
              unfold oneB at h
              rw [Bool.and_eq_true] at h
              exact hasI_mem.1 h.1
            have := good_of (la := -1) hR hs fun x hx => by
              obtain ⟨c, hc, e⟩ := (src_mem l x).1 (hs x hx)
              have := ok_by ((chk_ok h0).2.1 c hc)
              omega
            rw [this] at hg; cases hg
        rw [if_neg hr, if_pos ha]
        split <;> rfl
  · rw [if_pos h0, if_pos h0]
end Go.Proofs.YtgbkdjlekfjkfaaGreatDoor
/- Whether sources are a least conflict, by the document: the function. -/
namespace Go.Proofs.YtgbkdjlekfjkfaaGreatDoor
open Go Go.Em Go.Em.Net
set_option maxRecDepth 100000
def RkI (l : List Clm) (F : List Int) (k : Nat) (s : St) : Prop := ∃ (x : Env 45) (h : Heap) (i : Nat), s = ⟨x.l, h, []⟩ ∧ i + k = F.length ∧ x.v 0 = clsD l ∧ x.v 1 = intsD F ∧ x.v 6 = intsD (srcF l) ∧ x.v 25 = intsD F ∧ x.v 26 = D.int F.length ∧ x.v 27 = D.int i ∧ F.all (oneB l F) = (F.drop i).all (oneB l F)
def RkQ (l : List Clm) (F : List Int) (x : Ex) (s : St) : Prop := (x = .exit 0 ∧ F.all (oneB l F) = true ∧ ∃ (x : Env 45) (h : Heap), s = ⟨x.l, h, []⟩) ∨ (x = .ret ∧ F.all (oneB l F) = false ∧ ∃ (x : Env 45) (h : Heap), s = ⟨x.l, h, []⟩ ∧ x.v 4 = D.int 24)
set_option maxHeartbeats 8000000 in
theorem rk_round (l : List Clm) (h0 : chkF l = 0) (F : List Int) (hF : F.length * 8 ≤ 140737488355328) : ∀ n, F.length + 6000 ≤ n → ∀ k s, RkI l F k s → Res (k19l0.ev ⟨pg, 45, none⟩ (rc pg n) s) (Rnd (RkI l F) (RkQ l F) k) := by
  rintro n hn k s ⟨x, h, i, rfl, hik, v0, v1, v6, v25, v26, v27, ha⟩
  obtain ⟨hl1, _, _⟩ := chk_ok h0
  have hSl := src_len l
  by_cases hi : i < F.length
  · obtain ⟨v, hv⟩ : ∃ v, F[i] = v := ⟨_, rfl⟩
    have hd : F.drop i = v :: F.drop (i + 1) := by rw [List.drop_eq_getElem_cons hi, hv]
    rw [hd, List.all_cons] at ha
    have w1 : IntKind.i64.wrap ((i : Int) + 1) = (i : Int) + 1 := wrap_i64 (by omega) (by omega)
    have c0 := fun h => call_of (h := h) (pg := pg) (f := 21) (args := [intsD (srcF l), D.int v]) rfl (by simp [intsD, ints_canonL]) (@hasr_run (srcF l) (by omega) v n (by omega))
    have c1 := fun h => call_of (h := h) (pg := pg) (f := 76) rfl (by simp [intsD, ints_canonL]) (@lessn_run F v hF n (by omega))
    have hll := less_le F v
    obtain ⟨L', hL'⟩ : ∃ L', L' = lessL F v := ⟨_, rfl⟩
    have ho : oneB l F v = (hasI (srcF l) v && !badF (onlyF l (hasI L'))) := by rw [hL']; rfl
    rw [← hL'] at c1 hll
    have c2 := fun h => call_of (h := h) (pg := pg) (f := 74) rfl (two_canon l L') (@ronly_run l L' (by omega) (by omega) n (by omega))
    have c3 := fun h => call_of (h := h) (pg := pg) (f := 13) rfl (cls_canon (onlyF l (hasI L'))) (@poss_run (onlyF l (hasI L')) (only_chk h0 _) n (by omega))
    obtain ⟨O, hO⟩ : ∃ O, O = clsD (onlyF l (hasI L')) := ⟨_, rfl⟩
    rw [← hO] at c2 c3
    obtain ⟨C, hC⟩ : ∃ C, C = clsD l := ⟨_, rfl⟩
    rw [← hC] at v0 c2
    obtain ⟨DS, hDS⟩ : ∃ D, D = intsD (srcF l) := ⟨_, rfl⟩
    rw [← hDS] at v6 c0
    obtain ⟨DL', hDL'⟩ : ∃ D, D = intsD L' := ⟨_, rfl⟩
    rw [← hDL'] at c1 c2
    obtain ⟨DF, hDF⟩ : ∃ D, D = intsD F := ⟨_, rfl⟩
    rw [← hDF] at v1 c1
    simp only [intsD] at v25
    cases hb : hasI (srcF l) v with
    | false =>
      rw [hb, Bool.false_and] at ho
      rw [ho, Bool.false_and] at ha
      rw [hb] at c0
      simp [k19l0, v0, v1, v6, v25, v26, v27, hi, hv, D.cells, c0]
      exact .inr ⟨rfl, ha, _, _, rfl, by simp⟩
    | true =>
      rw [hb, Bool.true_and] at ho
      rw [hb] at c0
      cases hb2 : badF (onlyF l (hasI L')) with
      | true =>
        rw [hb2] at ho c3
        rw [ho] at ha
        simp [k19l0, v0, v1, v6, v25, v26, v27, hi, hv, D.cells, c0, c1, c2, c3]
        exact .inr ⟨rfl, by rw [ha]; rfl, _, _, rfl, by simp⟩
      | false =>
        rw [hb2] at ho c3
        rw [ho] at ha
        simp [k19l0, v0, v1, v6, v25, v26, v27, hi, hv, D.cells, c0, c1, c2, c3, w1]
        exact ⟨k - 1, by omega, _, _, i + 1, rfl, by omega, by simp [v0, hC], by simp [v1, hDF], by simp [v6, hDS], by simp [v25, intsD], by simp [v26], by simp, by rw [ha]; simp⟩
  · have hiF : i = F.length := by omega
    rw [hiF, List.drop_length] at ha
    simp [k19l0, v26, v27, hi]
    exact .inl ⟨rfl, by rw [ha]; rfl, _, _, rfl⟩
set_option maxHeartbeats 8000000 in
theorem rcheckg_run (l : List Clm) (F : List Int) (hF : F.length * 8 ≤ 140737488355328) {n : Nat} (hn : 2 * F.length + 8000 ≤ n) : pureCall (rc pg n) 19 [clsD l, intsD F] = some (.ret (D.int (rcF l F))) := by
  obtain ⟨m, rfl, e⟩ := body (pg := pg) (f := 19) (args := [clsD l, intsD F]) (show 0 < n by omega) rfl rfl
  rw [e]
  have ck := fun h => call_of (h := h) (pg := pg) (f := 9) rfl (cls_canon l) (@rchk_run l m (by omega))
  obtain ⟨C, hC⟩ : ∃ C, C = clsD l := ⟨_, rfl⟩
  by_cases h0 : chkF l = 0
  · obtain ⟨hl1, _, _⟩ := chk_ok h0
    rw [h0] at ck
    have hce : rcF l F = if rsB F = false then 24 else if badF (onlyF l (hasI F)) = false then 24 else if F.all (oneB l F) = false then 24 else 0 := by unfold rcF; rw [if_neg fun h => h h0]
    have cr := fun h => call_of (h := h) (pg := pg) (f := 73) (args := [intsD F]) rfl (by simp [intsD, ints_canonL]) (@rsg_run F (by omega) m (by omega))
    have co := fun h => call_of (h := h) (pg := pg) (f := 74) rfl (two_canon l F) (@ronly_run l F (by omega) (by omega) m (by omega))
    have cp := fun h => call_of (h := h) (pg := pg) (f := 13) rfl (cls_canon (onlyF l (hasI F))) (@poss_run (onlyF l (hasI F)) (only_chk h0 _) m (by omega))
    have cs := fun h => call_of (h := h) (pg := pg) (f := 75) rfl (cls_canon l) (@rsrc_run l (by omega) m (by omega))
    obtain ⟨O, hO⟩ : ∃ O, O = clsD (onlyF l (hasI F)) := ⟨_, rfl⟩
    obtain ⟨DF, hDF⟩ : ∃ D, D = intsD F := ⟨_, rfl⟩
    obtain ⟨DS, hDS⟩ : ∃ D, D = intsD (srcF l) := ⟨_, rfl⟩
    obtain ⟨B1, hB1⟩ : ∃ B, B = badF (onlyF l (hasI F)) := ⟨_, rfl⟩
    obtain ⟨Z, hZ⟩ : ∃ Z, Z = F.all (oneB l F) := ⟨_, rfl⟩
    rw [hce, ← hB1, ← hZ]
    rw [← hO] at co cp
    rw [← hB1] at cp
    rw [← hC] at ck co cs ⊢
    rw [← hDS] at cs
    rw [← hDF] at cr co ⊢
    cases hr : rsB F with
    | false =>
      rw [hr] at cr
      simp [k19, Env.v_ini, ck, cr]
    | true =>
      rw [hr] at cr
      cases B1 with
      | false => simp [k19, Env.v_ini, ck, cr, co, cp]
      | true =>
        have hlen : ∀ (x : Env 45), x.v 1 = DF → True := fun _ _ => trivial
        rw [hDF] at cr co ⊢
        simp only [intsD] at cr co
        simp [k19, Env.v_ini, ck, cr, co, cp, cs, intsD, ev_loop]
        refine Res.endsAfter (lp_rule (F.length + 6000) (RkI l F) _ (rk_round l h0 F hF) F.length m _ (by omega) ⟨_, _, 0, rfl, by omega, by simp [Env.v_ini, hC], by simp [Env.v_ini, intsD], by simp [hDS], by simp [intsD], by simp, by simp, rfl⟩) ?_
        rintro x s (⟨rfl, ha, x, h, rfl⟩ | ⟨rfl, ha, x, h, rfl, v4⟩)
        · rw [hZ, ha]; simp
        · rw [hZ, ha]; simp [v4]
  · have h0' : (chkF l != 0) = true := by simpa using h0
    have hce : rcF l F = chkF l := by unfold rcF; rw [if_pos h0]
    rw [hce]
    rw [← hC] at ck ⊢
    simp [-bne_iff_ne, k19, Env.v_ini, ck, h0', intsD]
end Go.Proofs.YtgbkdjlekfjkfaaGreatDoor
/- Whether sources are a least conflict: all others, and any one of them, have a chronology. -/
namespace Go.Proofs.YtgbkdjlekfjkfaaGreatDoor
open Go Go.Em Go.Em.Net
set_option maxRecDepth 100000
def othL (F L : List Int) : List Int := L.filter fun x => !hasI F x
theorem oth_snoc (F L : List Int) (c : Int) : othL F (L ++ [c]) = if hasI F c = true then othL F L else othL F L ++ [c] := by
  unfold othL
  rw [List.filter_append]
  split
  · rename_i h; simp [h]
  · rename_i h; simp [h]
theorem oth_le (F L : List Int) : (othL F L).length ≤ L.length := List.length_filter_le _ _
theorem oth_rise (F : List Int) {L : List Int} (h : Rise L) : Rise (othL F L) := List.Pairwise.sublist List.filter_sublist h
def OtI (C0 : D) (F S : List Int) (k : Nat) (s : St) : Prop := ∃ (x : Env 64) (h : Heap) (i : Nat) (d : D), s = ⟨x.l, h, []⟩ ∧ i + k = S.length ∧ x.v 0 = C0 ∧ x.v 1 = intsD F ∧ x.v 25 = intsD S ∧ x.v 26 = D.int S.length ∧ x.v 27 = D.int i ∧ x.v 6 = d ∧ GL h d (othL F (S.take i)) ∧ h.Fr
set_option maxHeartbeats 4000000 in
theorem ot_round (C0 : D) (F S : List Int) (hF : F.length ≤ 20000000000000) (hS : S.length ≤ 400) : ∀ n, F.length + 10 ≤ n → ∀ k s, OtI C0 F S k s → Res (k5l0.ev ⟨pg, 64, none⟩ (rc pg n) s) (Rnd (OtI C0 F S) (fun x s => x = .exit 0 ∧ OtI C0 F S 0 s) k) := by
  rintro n hn k s ⟨x, h, i, d, rfl, hik, v0, v1, v25, v26, v27, v6, hd, hf⟩
  simp only [intsD] at v25
  by_cases hi : i < S.length
  · obtain ⟨c, hc⟩ : ∃ c, S[i] = c := ⟨_, rfl⟩
    have htk : S.take (i + 1) = S.take i ++ [c] := by rw [List.take_add_one, List.getElem?_eq_getElem hi, hc]; rfl
    have hsn := oth_snoc F (S.take i) c
    rw [← htk] at hsn
    have hle := oth_le F (S.take i)
    rw [List.length_take] at hle
    obtain ⟨O, hO⟩ : ∃ O, O = othL F (S.take i) := ⟨_, rfl⟩
    rw [← hO] at hsn hle hd
    have w1 : IntKind.i64.wrap ((i : Int) + 1) = (i : Int) + 1 := wrap_i64 (by omega) (by omega)
    have hfr : ∀ j, h.raw (h.next + j) = none := fun j => hf _ (by omega)
    have ch := fun h => call_of (h := h) (pg := pg) (f := 21) (args := [intsD F, D.int c]) rfl (by simp [intsD, ints_canonL]) (@hasr_run F hF c n (by omega))
    obtain ⟨DF, hDF⟩ : ∃ D, D = intsD F := ⟨_, rfl⟩
    rw [← hDF] at v1 ch
    cases he : hasI F c with
    | true =>
      rw [he] at ch hsn
      rw [if_pos rfl] at hsn
      simp [k5l0, v1, v25, v26, v27, hi, hc, D.cells, w1, ch]
      refine ⟨k - 1, by omega, _, _, i + 1, d, rfl, by omega, by simp [v0], by simp [v1, hDF], by simp [v25, intsD], by simp [v26], by simp, by simp [v6], ?_, ?_⟩
      · rw [hsn]
        exact hd.keep (by simp <;> omega) fun q hq => by simp
      · repeat' first | exact hf | apply Heap.Fr.bump | apply Heap.Fr.set
    | false =>
      rw [he] at ch hsn
      rw [if_neg (by simp)] at hsn
      rcases hd with ⟨hO0, rfl⟩ | ⟨kk, rfl, hg, hkk⟩
      · subst hO0
        simp [k5l0, v1, v25, v26, v27, v6, hi, hc, D.cells, D.one, hfr, Nat.add_assoc, w1, ch, zerosD, apK_some, room, maxLen, List.range_succ]
        refine ⟨k - 1, by omega, _, _, i + 1, .slr (h.next + 230) 0 1 1 none, rfl, by omega, by simp [v0], by simp [v1, hDF], by simp [v25, intsD], by simp [v26], by simp, by simp, .inr ⟨h.next + 230, by simp [hsn], by simp [hsn], by simp <;> omega⟩, ?_⟩
        repeat' first | exact hf | apply Heap.Fr.bump | apply Heap.Fr.set
        all_goals (simp <;> omega)
      · have ne1 : ∀ j, (h.next + j = kk) = False := fun j => by simp; omega
        have ne2 : ∀ j, (kk = h.next + j) = False := fun j => by simp; omega
        have happ := fun t hh news => appS_none (t := t) (et := 3) (sz := 1) (bytes := 8) (h := hh) (m := 1) (news := news) (k := kk) (n := O.length) (cs := O.map D.int) (by simp) (by omega) (by unfold room; omega) (by unfold maxLen; omega)
        simp [k5l0, v1, v25, v26, v27, v6, hi, hc, D.cells, D.one, hfr, Nat.add_assoc, w1, ch, zerosD, apK_some, List.range_succ, hg, ne1, ne2, happ]
        refine ⟨k - 1, by omega, _, _, i + 1, .slr (h.next + 230) 0 (O.length + 1) 1 none, rfl, by omega, by simp [v0], by simp [v1, hDF], by simp [v25, intsD], by simp [v26], by simp, by simp, .inr ⟨h.next + 230, by simp [hsn], by simp [hsn], by simp <;> omega⟩, ?_⟩
        repeat' first | exact hf | apply Heap.Fr.bump | apply Heap.Fr.set
        all_goals (simp <;> omega)
  · simp [k5l0, v26, v27, hi]
    exact ⟨_, _, i, d, rfl, by omega, by simp [v0], by simp [v1], by simp [v25, intsD], by simp [v26], by simp [v27], by simp [v6], hd.keep (by simp) (by simp), hf.bump _⟩
def GZ (h : Heap) (d : D) (L : List Int) : Prop := (L = [] ∧ d = .val (.slice none 0 0)) ∨ ∃ k, d = .slr k 0 L.length 1 none ∧ (h.get k = some (.cells 3 (L.map D.int)) ∨ (h.get k = none ∧ h.fzd k = some (L.map D.int))) ∧ k < h.next
theorem GL.z {h : Heap} {d : D} {L : List Int} (g : GL h d L) : GZ h d L := by
  rcases g with g | ⟨k, a, b, c⟩
  · exact .inl g
  · exact .inr ⟨k, a, .inl b, c⟩
theorem GZ.bump {h : Heap} {d : D} {L : List Int} (g : GZ h d L) (z : Nat) : GZ (h.bump z) d L := by
  rcases g with g | ⟨k, a, b, c⟩
  · exact .inl g
  · exact .inr ⟨k, a, by simpa using b, by simp; omega⟩
theorem int_cool (h : Heap) (ks : List Nat) (k : IntKind) (i : Int) : coolD h ks (.val (.int k i)) = .val (.int k i) := by
  unfold coolD
  rw [frz_canon (show D.canon (.val (.int k i)) = true from rfl)]
  rfl
theorem cool_one {h : Heap} {k : Nat} {ty : TypeId} {cs : List D} (hg : h.get k = some (.cells ty cs)) (hc : cs.map (coolD h [k]) = cs) :
    (h.cool [k]).next = h.next ∧ (∀ j, j ≠ k → (h.cool [k]).raw j = h.raw j) ∧ (h.cool [k]).raw k = some none ∧ (h.cool [k]).fzd k = some cs := by
  refine ⟨rfl, fun j hj => Heap.raw_set_ne h none hj, Heap.raw_set_same h k none, ?_⟩
  show (coolL h [k] [k] ++ (h.kill [k]).z).lookup k = some cs
  simp [coolL, hg, hc]
theorem gz_call {R : Rc} {f : FuncId} {L : List Int} {d r : D} {v : Int} {h : Heap} (hs : pg.sh f = false) (g : GZ h d L) (hf : h.Fr) (x : pureCall R f [intsD L, D.int v] = some (.ret r)) : ∃ H, call pg R f [d, D.int v] h = some (.ret r, H) ∧ GZ H d L ∧ H.Fr := by
  have zv : frz h 24 (D.int v) = some (D.int v, []) := frz_can (n := 23) rfl
  rcases g with ⟨rfl, rfl⟩ | ⟨k, rfl, hg | ⟨hg, hz⟩, hk⟩
  · refine ⟨h, callfz (bs := [intsD [], D.int v]) (ks := []) hs rfl x rfl, .inl ⟨rfl, rfl⟩, hf⟩
  · have z1 : frz h 24 (.slr k 0 L.length 1 none) = some (intsD L, [k]) := by
      have := frz_slc (S := L) (Z := []) (kb := k) (d := 22) (c0 := none) (H := h) (by simpa using hg)
      simpa using this
    have ha : each (Go.Em.frz h depth) [.slr k 0 L.length 1 none, D.int v] = some ([intsD L, D.int v], [k]) := by
      show each (frz h 24) _ = _
      simp only [each_cons, each_nil, z1, zv, eachK_some]
      rfl
    have e : call pg R f [.slr k 0 L.length 1 none, D.int v] h = some (.ret r, if (([k] : List Nat).isEmpty || (Out.ret r).d.flat) = true then h else h.cool [k]) := by
      simp only [call, hs, ha, pureA, pureS, x, orS, Option.map_some, Bool.false_eq_true, if_false]
    by_cases hd : r.flat = true
    · exact ⟨h, by rw [e]; simp [Out.d, hd], .inr ⟨k, rfl, .inl hg, hk⟩, hf⟩
    · have hm : (L.map D.int).map (coolD h [k]) = L.map D.int := by
        rw [List.map_map]
        exact List.map_congr_left fun a _ => int_cool h [k] .i64 a
      obtain ⟨c1, c2, c3, c4⟩ := cool_one hg hm
      refine ⟨h.cool [k], by rw [e]; simp [Out.d, hd], .inr ⟨k, rfl, .inr ⟨by unfold Heap.get; rw [c3]; rfl, c4⟩, by omega⟩, ?_⟩
      intro j hj
      rw [c1] at hj
      rw [c2 j (by omega)]; exact hf j hj
  · have z1 : frz h 24 (.slr k 0 L.length 1 none) = some (intsD L, []) := by
      show frz h (23 + 1) _ = _
      rw [frz_slr, hg]
      unfold frzS
      simp only [hz]
      have hle : 0 + L.length * 1 ≤ (L.map D.int).length ∧ 0 < 1 := by simp
      have htk : ((L.map D.int).drop 0).take (L.length * 1) = L.map D.int := by
        rw [List.drop_zero, Nat.mul_one]
        exact List.take_of_length_le (by simp)
      rw [if_pos hle, htk, chunk_ints]; rfl
    have ha : each (Go.Em.frz h depth) [.slr k 0 L.length 1 none, D.int v] = some ([intsD L, D.int v], []) := by
      show each (frz h 24) _ = _
      simp only [each_cons, each_nil, z1, zv, eachK_some]
      rfl
    exact ⟨h, callfz hs ha x rfl, .inr ⟨k, rfl, .inr ⟨hg, hz⟩, hk⟩, hf⟩
end Go.Proofs.YtgbkdjlekfjkfaaGreatDoor
/- Whether sources are a least conflict: the law, by the evaluator. -/
namespace Go.Proofs.YtgbkdjlekfjkfaaGreatDoor
open Go Go.Em Go.Em.Net
set_option maxRecDepth 100000
theorem cc_ok {l : List Clm} {F : List Int} (h : ccF l F = 0) : chkF l = 0 ∧ Rise F ∧ (∀ x ∈ F, x ∈ srcF l) ∧ ∀ v ∈ F, badF (onlyF l (hasI (lessL F v))) = false := by
  unfold ccF at h
  by_cases h0 : chkF l = 0
  · rw [if_neg fun h => h h0] at h
    cases hg : goodF (srcF l) (-1) F with
    | false => rw [hg, if_pos rfl] at h; omega
    | true =>
      obtain ⟨a, b, _⟩ := good_spec hg
      have e1 : ¬ (true = false) := by simp
      rw [hg, if_neg e1] at h
      refine ⟨h0, a, b, fun v hv => ?_⟩
      cases hb : badF (onlyF l (hasI (lessL F v))) with
      | false => rfl
      | true =>
        have : (F.any fun v => badF (onlyF l (hasI (lessL F v)))) = true := List.any_eq_true.2 ⟨v, hv, hb⟩
        rw [this, if_pos rfl] at h
        split at h <;> omega
  · rw [if_pos h0] at h; exact absurd h h0
theorem out_less {l : List Clm} {F : List Int} (v : Int) : outF l (insF (othL F (srcF l)) v) = onlyF l (hasI (lessL F v)) := by
  unfold outF
  refine List.filter_congr fun c hc => ?_
  have hs : c.by_ ∈ srcF l := (src_mem l _).2 ⟨c, hc, rfl⟩
  have h1 : hasI (insF (othL F (srcF l)) v) c.by_ = decide (c.by_ ∉ F ∨ c.by_ = v) := by
    rw [has_dec]
    congr 1
    rw [insF_mem]
    unfold othL
    rw [List.mem_filter]
    have : ((!hasI F c.by_) = true) ↔ c.by_ ∉ F := by rw [has_dec]; simp
    rw [this]
    simp [hs]
  have h2 : hasI (lessL F v) c.by_ = decide (c.by_ ∈ F ∧ c.by_ ≠ v) := by
    rw [has_dec]
    congr 1
    unfold lessL
    rw [List.mem_filter]
    simp
  show (!hasI (insF (othL F (srcF l)) v) c.by_) = hasI (lessL F v) c.by_
  rw [h1, h2]
  by_cases a : c.by_ ∈ F <;> by_cases b : c.by_ = v <;> simp [a, b]
def LwI (C0 : D) (F O : List Int) (k : Nat) (s : St) : Prop := ∃ (x : Env 64) (h : Heap) (i : Nat) (d : D), s = ⟨x.l, h, []⟩ ∧ i + k = F.length ∧ x.v 0 = C0 ∧ x.v 40 = intsD F ∧ x.v 41 = D.int F.length ∧ x.v 42 = D.int i ∧ x.v 6 = d ∧ GZ h d O ∧ h.Fr
set_option maxHeartbeats 8000000 in
theorem lw_round (l : List Clm) (F : List Int) (hc : ccF l F = 0) : ∀ n, 6000 ≤ n → ∀ k s, LwI (clsD l) F (othL F (srcF l)) k s → Res (k5l1.ev ⟨pg, 64, none⟩ (rc pg n) s) (Rnd (LwI (clsD l) F (othL F (srcF l))) (fun x s => x = .exit 2 ∧ ∃ (x : Env 64) (h : Heap), s = ⟨x.l, h, []⟩) k) := by
  rintro n hn k s ⟨x, h, i, d, rfl, hik, v0, v40, v41, v42, v6, hd, hf⟩
  simp only [intsD] at v40
  obtain ⟨h0, hR, hsub, hbad⟩ := cc_ok hc
  obtain ⟨hl1, _, _⟩ := chk_ok h0
  have hSl := src_len l
  have hol := oth_le F (srcF l)
  have hFl : F.length ≤ 400 := Nat.le_trans (rise_len _ _ hR (src_rise l) hsub) (by omega)
  by_cases hi : i < F.length
  · obtain ⟨v, hv⟩ : ∃ v, F[i] = v := ⟨_, rfl⟩
    have hb := hbad v (by rw [← hv]; exact List.getElem_mem hi)
    have ho := out_less (l := l) (F := F) v
    have hOr := oth_rise F (src_rise l)
    obtain ⟨O, hO⟩ : ∃ O, O = othL F (srcF l) := ⟨_, rfl⟩
    rw [← hO] at hd ho hol hOr
    have w1 : IntKind.i64.wrap ((i : Int) + 1) = (i : Int) + 1 := wrap_i64 (by omega) (by omega)
    have hil := insF_len O v
    obtain ⟨H, c1, hd2, hf2⟩ := gz_call (R := rc pg n) (f := 23) rfl (((hd.bump 64).bump 64).bump 64) (by repeat' first | exact hf | apply Heap.Fr.bump) (with_run O hOr (by omega) v (n := n) (by omega))
    have c2 := fun h => call_of (h := h) (pg := pg) (f := 22) rfl (two_canon l (insF O v)) (@without_run l (insF O v) (by omega) (by omega) n (by omega))
    rw [ho] at c2
    have h0' := only_chk h0 (hasI (lessL F v))
    obtain ⟨L, hL⟩ : ∃ L, L = onlyF l (hasI (lessL F v)) := ⟨_, rfl⟩
    rw [← hL] at c2 hb h0'
    have hm := (chk_ok h0').2.2
    have c3 : ∀ h : Heap, call pg (rc pg n) 11 [clsD L, .val (.slice none 0 0)] h = some (.ret (chrD L []), h) := fun h =>
      callfz (bs := [clsD L, intsD []]) (ks := []) rfl (by
        have z2 : frz h 24 (clsD L) = some (clsD L, []) := frz_can (n := 23) (by simp [clsD, canonL_map clD cl_canon L])
        show each (frz h 24) _ = _
        simp only [each_cons, each_nil, z2, frz_nil, eachK_some]
        rfl) (chrono_run L [] (by simp) (by omega)) rfl
    have hcl : (chrL L []).length = (marksF L).length := by unfold chrL; rw [if_pos (cer_of h0' hb), lsF_len]
    have hce : chrD L [] = .tup [.sl false ((chrL L []).map dtD), D.int 0] := by unfold chrD; rw [cer_of h0' hb]; rfl
    rw [hce] at c3
    obtain ⟨Z, hZ⟩ : ∃ Z, Z = (chrL L []).map dtD := ⟨_, rfl⟩
    have hZl : Z.length ≤ 64 := by rw [hZ, List.length_map, hcl]; exact hm
    rw [← hZ] at c3
    have g64 : ¬ ((64 : Int) < (Z.length : Int)) := by omega
    obtain ⟨CL, hCL⟩ : ∃ C, C = clsD L := ⟨_, rfl⟩
    rw [← hCL] at c2 c3
    obtain ⟨C, hC⟩ : ∃ C, C = clsD l := ⟨_, rfl⟩
    rw [← hC] at v0 c2
    obtain ⟨DW, hDW⟩ : ∃ D, D = intsD (insF O v) := ⟨_, rfl⟩
    rw [← hDW] at c1 c2
    simp [k5l1, v0, v40, v41, v42, v6, hi, hv, D.cells, c1, c2, c3, w1, g64]
    exact ⟨k - 1, by omega, _, _, i + 1, d, rfl, by omega, by simp [v0, hC], by simp [v40, intsD], by simp [v41], by simp, by simp [v6], by rw [← hO]; repeat' first | exact hd2 | apply GZ.bump, by repeat' first | exact hf2 | apply Heap.Fr.bump⟩
  · simp [k5l1, v41, v42, hi]
    exact ⟨_, rfl⟩
set_option maxHeartbeats 8000000 in
theorem conf_law (l : List Clm) (F : List Int) (hF : F.length * 8 ≤ 140737488355328) {n : Nat} (hn : 3 * F.length + 3000000 ≤ n) : pureCall (rc pg n) 5 [clsD l, intsD F] = some (.ret (.val (.bool true))) := by
  obtain ⟨m, rfl, e⟩ := body (pg := pg) (f := 5) (args := [clsD l, intsD F]) (show 0 < n by omega) rfl rfl
  rw [e]
  have hs := fun h => @sane_call m (by omega) h
  have cc := fun h => call_of (h := h) (pg := pg) (f := 18) rfl (two_canon l F) (@checkg_run l F (by omega) m (by omega))
  have cr := fun h => call_of (h := h) (pg := pg) (f := 19) rfl (two_canon l F) (@rcheckg_run l F hF m (by omega))
  rw [rc_cc] at cr
  by_cases hz : ccF l F = 0
  · obtain ⟨h0, hR, hsub, hbad⟩ := cc_ok hz
    obtain ⟨hl1, _, _⟩ := chk_ok h0
    have hSl := src_len l
    rw [hz] at cc cr
    have cs := fun h => call_of (h := h) (pg := pg) (f := 20) rfl (cls_canon l) (@rsources_run l m (by omega))
    rw [if_pos h0] at cs
    obtain ⟨C, hC⟩ : ∃ C, C = clsD l := ⟨_, rfl⟩
    obtain ⟨S, hS⟩ : ∃ S, S = srcF l := ⟨_, rfl⟩
    rw [← hC] at cc cr cs ⊢
    rw [← hS] at cs hSl
    simp only [intsD] at cc cr cs
    simp [k5, Env.v_ini, intsD, cc, cr, cs, ev_loop]
    obtain ⟨T, hT⟩ : ∃ T, T = k5l1 := ⟨_, rfl⟩
    rw [← hT]
    refine Res.endsAfter (lp_rule (F.length + 10) (OtI C F S) _ (ot_round C F S (by omega) (by omega)) S.length m _ (by omega) ⟨_, _, 0, .val (.slice none 0 0), rfl, by omega, by simp [Env.v_ini], by simp [Env.v_ini, intsD], by simp [intsD], by simp, by simp, by simp, .inl ⟨by simp [othL], rfl⟩, by repeat' first | exact Heap.Fr.empty | apply Heap.Fr.bump⟩) ?_
    rintro x s ⟨rfl, x, h, i, d, rfl, hi, v0, v1, v25, v26, v27, v6, hd, hf⟩
    obtain rfl : i = S.length := by omega
    rw [List.take_length, hS] at hd
    subst hT
    simp only [intsD] at v1
    simp [v1, ev_loop]
    refine Res.endsAfter (lp_rule 6000 (LwI (clsD l) F (othL F (srcF l))) _ (lw_round l F hz) F.length m _ (by omega) ⟨_, _, 0, d, rfl, by omega, by simp [v0, hC], by simp [intsD], by simp, by simp, by simp [v6], by repeat' first | exact hd.z | apply GZ.bump, by repeat' first | exact hf | apply Heap.Fr.bump⟩) ?_
    rintro x s ⟨rfl, x, h, rfl⟩
    simp [hs]
  · have hz' : (ccF l F != 0) = true := by simpa using hz
    obtain ⟨C, hC⟩ : ∃ C, C = clsD l := ⟨_, rfl⟩
    rw [← hC] at cc cr ⊢
    obtain ⟨DF, hDF⟩ : ∃ D, D = intsD F := ⟨_, rfl⟩
    rw [← hDF] at cc cr ⊢
    simp [-bne_iff_ne, k5, Env.v_ini, cc, cr, hs, hz']
end Go.Proofs.YtgbkdjlekfjkfaaGreatDoor
