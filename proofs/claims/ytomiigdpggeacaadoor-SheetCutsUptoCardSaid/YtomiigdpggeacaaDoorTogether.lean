/- Years that both sheets allow between neighbouring marks that both have. -/
import Derived.Test.YtomiigdpggeacaaDoorTrim
namespace Go.Proofs.YtomiigdpggeacaaDoor
open Go Go.Em
set_option maxRecDepth 100000
theorem loHi (r : Rw) (hv : (natF r).valid = true) : (natF r).lo ≤ (natF r).hi := by
  unfold natF at hv ⊢
  repeat' split
  all_goals simp_all [inB]
  all_goals omega
theorem loHiL : ∀ l : List Rw, okAll l = true → loSum l ≤ hiSum l
  | [], _ => by simp [loSum, hiSum]
  | r :: l, h => by
    simp only [okAll, List.all_cons, Bool.and_eq_true] at h
    have h1 := loHi r h.1
    have h2 := loHiL l h.2
    rw [loSum_cons, hiSum_cons]; omega
/-- What the program tells of two marks of a valid sheet. -/
theorem btw_ok {i r c : Int} {l : List Rw} (h0 : chkF i r c l = 0) {a b : Int} (ha : notIn (shMarks i r c l) a = false) (hb : notIn (shMarks i r c l) b = false) (hab : a < b) :
    btwF i r c l a b = (⟨a, b, sLo a b (shSpans i r c l), sHi a b (shSpans i r c l)⟩, 0) ∧ 0 ≤ sLo a b (shSpans i r c l) ∧ sLo a b (shSpans i r c l) ≤ sHi a b (shSpans i r c l) ∧ sHi a b (shSpans i r c l) ≤ 100000 := by
  have e := btw_is h0 ha hb (by omega)
  rw [← btw_same] at e
  refine ⟨e, ?_⟩
  have h1 : ∃ p : Nat, atF c a l = (p : Int) := by
    rcases at_in h0 a with ⟨h, _⟩ | ⟨_, h⟩
    · rw [ha] at h; cases h
    · exact h
  have h2 : ∃ p : Nat, atF c b l = (p : Int) := by
    rcases at_in h0 b with ⟨h, _⟩ | ⟨_, h⟩
    · rw [hb] at h; cases h
    · exact h
  obtain ⟨p, h1⟩ := h1
  obtain ⟨q, h2⟩ := h2
  obtain ⟨hc, ho⟩ := chk_core h0
  obtain ⟨p1, p2, p3⟩ := at_row hc h1
  obtain ⟨q1, q2, q3⟩ := at_row hc h2
  have hpq : p ≤ q := by
    apply Decidable.byContradiction; intro hn
    have := ord_two c l (-1) ho q p q1 p1 (by omega) q2 p2
    rw [p3, q3] at this; omega
  have hd := (btw_down h0 h1 h2 hpq).1
  rw [e] at hd
  have e1 : sLo a b (shSpans i r c l) = midS loSum l p q := congrArg (fun z => z.1.lo) hd
  have e2 : sHi a b (shSpans i r c l) = midS hiSum l p q := congrArg (fun z => z.1.hi) hd
  rw [e1, e2]
  have hv := chk_ok h0
  have hb := mid_bound hv (chk_len h0) p q
  have h3 : hiSum l ≤ 100000 := by
    have hn := chk_nats h0
    unfold natsF at hn
    split at hn
    · simp at hn
    · split at hn
      · simp at hn
      · split at hn
        · simp at hn
        · omega
  have h4 := hiSum_part hv p (q - p)
  have hv' : okAll ((l.drop p).take (q - p)) = true := by
    unfold okAll at hv ⊢
    rw [List.all_eq_true] at hv ⊢
    exact fun a ha => hv a (List.mem_of_mem_drop (List.mem_of_mem_take ha))
  have h5 := loHiL _ hv'
  unfold midS at hb ⊢
  omega
theorem pair_mem {f : Int → Int → Sp} {l : List Int} (hr : l.Pairwise (· < ·)) {p : Sp} (hp : p ∈ pairF f l) : ∃ a b, p = f a b ∧ a ∈ l ∧ b ∈ l ∧ a < b := by
  obtain ⟨j, hj, rfl⟩ := List.getElem_of_mem hp
  have hl := pairF_len f l
  have h1 : j < l.length := by omega
  have h2 : j + 1 < l.length := by omega
  refine ⟨l[j], l[j + 1], pairF_get f l j hj h1 h2, List.getElem_mem _, List.getElem_mem _, ?_⟩
  exact List.pairwise_iff_getElem.1 hr j (j + 1) h1 h2 (by omega)
/-- A span of both that is wanted, where both sheets are valid and of one core. -/
theorem where_mem {W : Sp → Bool} {i r c : Int} {l : List Rw} {i' r' c' : Int} {l' : List Rw} (ht : twoF i r c l i' r' c' l' = 0) {p : Sp} (hp : p ∈ whereF W i r c l i' r' c' l') :
    W p = true ∧ ∃ x y : Sp, btwF i r c l p.a p.b = (x, 0) ∧ btwF i' r' c' l' p.a p.b = (y, 0) ∧ p.lo = max x.lo y.lo ∧ p.hi = min x.hi y.hi ∧ (0 ≤ x.lo ∧ x.lo ≤ x.hi ∧ x.hi ≤ 100000) ∧ (0 ≤ y.lo ∧ y.lo ≤ y.hi ∧ y.hi ≤ 100000) := by
  unfold whereF at hp
  rw [if_pos ht] at hp
  obtain ⟨hp, hW⟩ := List.mem_filter.1 hp
  refine ⟨hW, ?_⟩
  have h0 : chkF i r c l = 0 := by
    apply Decidable.byContradiction; intro h
    unfold twoF at ht; rw [if_pos h] at ht; exact h ht
  have h1 : chkF i' r' c' l' = 0 := by
    apply Decidable.byContradiction; intro h
    unfold twoF at ht; rw [if_neg (by simpa using h0), if_pos h] at ht; exact h ht
  have hrise : (shMarks i r c l).Pairwise (· < ·) := by
    unfold shMarks; rw [if_pos h0]; exact (marks_rise c l _ (chk_core h0).2).1
  obtain ⟨a, b, rfl, ha, hb, hab⟩ := pair_mem (hrise.filter _) hp
  obtain ⟨ha1, ha2⟩ := List.mem_filter.1 ha
  obtain ⟨hb1, hb2⟩ := List.mem_filter.1 hb
  have hin0 : ∀ v ∈ shMarks i r c l, notIn (shMarks i r c l) v = false := fun v hv => by simpa [notIn] using hv
  obtain ⟨e1, f1⟩ := btw_ok h0 (hin0 a ha1) (hin0 b hb1) hab
  obtain ⟨e2, f2⟩ := btw_ok h1 (by simpa using ha2) (by simpa using hb2) hab
  exact ⟨_, _, e1, e2, rfl, rfl, f1, f2⟩
end Go.Proofs.YtomiigdpggeacaaDoor
/- The law's rounds. -/
namespace Go.Proofs.YtomiigdpggeacaaDoor
open Go Go.Em
set_option maxRecDepth 100000
def TI (s t : List D) (nn : Int) (A B : List Sp) (k : Nat) (st : St) : Prop := ∃ (x : Env 212) (h : Heap) (i : Nat), st = ⟨x.l, h, []⟩ ∧ i + k = A.length ∧ x.v 3 = .ptr 3 0 ∧ x.v 4 = .ptr 4 0 ∧ h.get 3 = some (.cells 25 s) ∧ h.get 4 = some (.cells 25 t) ∧ x.v 2 = D.int nn ∧ x.v 7 = D.bool true ∧ x.v 8 = spsD A ∧ x.v 10 = spsD B ∧ x.v 12 = D.int i ∧ h.Fr ∧ 4 < h.next
/-- What a span says that Between answers of two sheets. -/
def BtwA (i r c : Int) (l : List Rw) (i' r' c' : Int) (l' : List Rw) (p : Sp) : Prop := ∃ x y : Sp, btwF i r c l p.a p.b = (x, 0) ∧ btwF i' r' c' l' p.a p.b = (y, 0) ∧ p.lo = max x.lo y.lo ∧ p.hi = min x.hi y.hi ∧ (0 ≤ x.lo ∧ x.lo ≤ x.hi ∧ x.hi ≤ 100000) ∧ (0 ≤ y.lo ∧ y.lo ≤ y.hi ∧ y.hi ≤ 100000)
set_option maxHeartbeats 16000000 in
theorem tog_round (i0 r0 c0 : Int) (l : List Rw) (i1 r1 c1 : Int) (l' : List Rw) (nn : Int) (A B : List Sp) (hAl : A.length ≤ 400) (hA : ∀ p ∈ A, BtwA i0 r0 c0 l i1 r1 c1 l' p) : ∀ n, l.length + l'.length + 600 ≤ n → ∀ k s, TI (sheetC i0 r0 c0 l) (sheetC i1 r1 c1 l') nn A B k s →
    Res (k9l0.ev ⟨pg, 212, none⟩ (rc pg n) s) (Rnd (TI (sheetC i0 r0 c0 l) (sheetC i1 r1 c1 l') nn A B) (fun x s => x = .exit 0 ∧ TI (sheetC i0 r0 c0 l) (sheetC i1 r1 c1 l') nn A B 0 s) k) := by
  rintro n hn k s ⟨x, h, i, rfl, hik, v3, v4, g3, g4, v2, v7, v8, v10, v12, hf, h4⟩
  have hfr : ∀ j, h.raw (h.next + j) = none := fun j => hf _ (by omega)
  have c0' : D.canonL (l.map rowD) = true := canonL_map rowD (fun _ => rfl) l
  have c1' : D.canonL (l'.map rowD) = true := canonL_map rowD (fun _ => rfl) l'
  have s33 : pg.sh 33 = false := rfl
  have s31 : pg.sh 31 = false := rfl
  have n3 : ∀ j, (3 = h.next + j) = False := fun j => by simp; omega
  have n4 : ∀ j, (4 = h.next + j) = False := fun j => by simp; omega
  simp only [sheetC, rowsD] at g3 g4
  have v8' := v8
  simp only [spsD, spD, spC] at v8
  by_cases hlt : i < A.length
  · obtain ⟨p, hp⟩ : ∃ p, A[i] = p := ⟨A[i], rfl⟩
    have hpA : p ∈ A := by rw [← hp]; exact List.getElem_mem hlt
    obtain ⟨X, Y, e1, e2, e3, e4, ⟨x1, x2, x3⟩, ⟨y1, y2, y3⟩⟩ := hA p hpA
    have hw1 : IntKind.i64.wrap ((i : Int) + 1) = (i : Int) + 1 := wrap_i64 (by omega) (by omega)
    have q1 := @between_run i0 r0 c0 p.a p.b l n (by omega)
    have q2 := @between_run i1 r1 c1 p.a p.b l' n (by omega)
    rw [e1] at q1
    rw [e2] at q2
    simp only [sheetC, rowsD, spD, spC] at q1 q2
    have w1 : IntKind.i64.wrap (X.hi - X.lo) = X.hi - X.lo := wrap_i64 (by omega) (by omega)
    have w2 : IntKind.i64.wrap (X.hi - X.lo + 1) = X.hi - X.lo + 1 := wrap_i64 (by omega) (by omega)
    have q3 := @mod_run nn (X.hi - X.lo + 1) (by omega) (by omega) n (by omega)
    obtain ⟨M, hM⟩ : ∃ M, M = nn % (X.hi - X.lo + 1) := ⟨_, rfl⟩
    have m1 := Int.emod_nonneg nn (show X.hi - X.lo + 1 ≠ 0 by omega)
    have m2 := Int.emod_lt_of_pos nn (show 0 < X.hi - X.lo + 1 by omega)
    rw [← hM] at q3 m1 m2
    have w3 : IntKind.i64.wrap (X.lo + M) = X.lo + M := wrap_i64 (by omega) (by omega)
    have b1 : ¬ X.lo < 0 := by omega
    have b2 : ¬ X.hi < X.lo := by omega
    have b3 : ¬ 100000 < X.hi := by omega
    have z1 : (Y.lo ≤ X.lo + M) = (p.lo ≤ X.lo + M) := by rw [e3]; simp only [eq_iff_iff]; omega
    have z2 : (X.lo + M ≤ Y.hi) = (X.lo + M ≤ p.hi) := by rw [e4]; simp only [eq_iff_iff]; omega
    by_cases t1 : p.lo ≤ X.lo + M
    · by_cases t2 : X.lo + M ≤ p.hi
      · simp [k9l0, v2, v3, v4, v8, v12, g3, g4, hlt, hp, spD, spC, D.cells, D.one, dcore_f, s33, s31, c0', c1', q1, q2, q3, hw1, hfr, Nat.add_assoc, n3, n4, w1, w2, w3, b1, b2, b3, z1, z2, t1, t2]
        refine ⟨k - 1, by omega, _, _, i + 1, rfl, by omega, by simp [v3], by simp [v4], by simp [g3, sheetC, rowsD, n3], by simp [g4, sheetC, rowsD, n4], by simp [v2], by simp [v7], by simp [v8, spsD, spC], by simp [v10], by simp, ?_, by simp <;> omega⟩
        repeat' first | exact hf | apply Heap.Fr.bump | apply Heap.Fr.set
        all_goals (simp <;> omega)
      · simp [k9l0, v2, v3, v4, v8, v12, g3, g4, hlt, hp, spD, spC, D.cells, D.one, dcore_f, s33, s31, c0', c1', q1, q2, q3, hw1, hfr, Nat.add_assoc, n3, n4, w1, w2, w3, b1, b2, b3, z1, z2, t1, t2]
        refine ⟨k - 1, by omega, _, _, i + 1, rfl, by omega, by simp [v3], by simp [v4], by simp [g3, sheetC, rowsD, n3], by simp [g4, sheetC, rowsD, n4], by simp [v2], by simp [v7], by simp [v8, spsD, spC], by simp [v10], by simp, ?_, by simp <;> omega⟩
        repeat' first | exact hf | apply Heap.Fr.bump | apply Heap.Fr.set
        all_goals (simp <;> omega)
    · simp [k9l0, v2, v3, v4, v8, v12, g3, g4, hlt, hp, spD, spC, D.cells, D.one, dcore_f, s33, s31, c0', c1', q1, q2, q3, hw1, hfr, Nat.add_assoc, n3, n4, w1, w2, w3, b1, b2, b3, z1, z2, t1]
      refine ⟨k - 1, by omega, _, _, i + 1, rfl, by omega, by simp [v3], by simp [v4], by simp [g3, sheetC, rowsD, n3], by simp [g4, sheetC, rowsD, n4], by simp [v2], by simp [v7], by simp [v8, spsD, spC], by simp [v10], by simp, ?_, by simp <;> omega⟩
      repeat' first | exact hf | apply Heap.Fr.bump | apply Heap.Fr.set
      all_goals (simp <;> omega)
  · simp [k9l0, v8, v12, hlt]
    exact ⟨_, _, i, rfl, by omega, by simp [v3], by simp [v4], by simp [g3, sheetC, rowsD], by simp [g4, sheetC, rowsD], by simp [v2], by simp [v7], by simp [v8, spsD, spD, spC], by simp [v10], by simp [v12], hf.bump _, by simp <;> omega⟩
def TJ (s t : List D) (nn : Int) (A B : List Sp) (k : Nat) (st : St) : Prop := ∃ (x : Env 212) (h : Heap) (i : Nat), st = ⟨x.l, h, []⟩ ∧ i + k = B.length ∧ x.v 3 = .ptr 3 0 ∧ x.v 4 = .ptr 4 0 ∧ h.get 3 = some (.cells 25 s) ∧ h.get 4 = some (.cells 25 t) ∧ x.v 2 = D.int nn ∧ x.v 7 = D.bool true ∧ x.v 8 = spsD A ∧ x.v 10 = spsD B ∧ x.v 19 = D.int i ∧ h.Fr ∧ 4 < h.next
set_option maxHeartbeats 16000000 in
theorem tog_round2 (i0 r0 c0 : Int) (l : List Rw) (i1 r1 c1 : Int) (l' : List Rw) (nn : Int) (A B : List Sp) (hAl : B.length ≤ 400) (hA : ∀ p ∈ B, p.hi < p.lo ∧ BtwA i0 r0 c0 l i1 r1 c1 l' p) : ∀ n, l.length + l'.length + 600 ≤ n → ∀ k s, TJ (sheetC i0 r0 c0 l) (sheetC i1 r1 c1 l') nn A B k s →
    Res (k9l1.ev ⟨pg, 212, none⟩ (rc pg n) s) (Rnd (TJ (sheetC i0 r0 c0 l) (sheetC i1 r1 c1 l') nn A B) (fun x s => x = .exit 2 ∧ TJ (sheetC i0 r0 c0 l) (sheetC i1 r1 c1 l') nn A B 0 s) k) := by
  rintro n hn k s ⟨x, h, i, rfl, hik, v3, v4, g3, g4, v2, v7, v8, v10, v19, hf, h4⟩
  have hfr : ∀ j, h.raw (h.next + j) = none := fun j => hf _ (by omega)
  have c0' : D.canonL (l.map rowD) = true := canonL_map rowD (fun _ => rfl) l
  have c1' : D.canonL (l'.map rowD) = true := canonL_map rowD (fun _ => rfl) l'
  have s33 : pg.sh 33 = false := rfl
  have s31 : pg.sh 31 = false := rfl
  have n3 : ∀ j, (3 = h.next + j) = False := fun j => by simp; omega
  have n4 : ∀ j, (4 = h.next + j) = False := fun j => by simp; omega
  simp only [sheetC, rowsD] at g3 g4
  have v8' := v8
  simp only [spsD, spD, spC] at v10
  by_cases hlt : i < B.length
  · obtain ⟨p, hp⟩ : ∃ p, B[i] = p := ⟨B[i], rfl⟩
    have hpA : p ∈ B := by rw [← hp]; exact List.getElem_mem hlt
    obtain ⟨hW, X, Y, e1, e2, e3, e4, ⟨x1, x2, x3⟩, ⟨y1, y2, y3⟩⟩ := hA p hpA
    have hw1 : IntKind.i64.wrap ((i : Int) + 1) = (i : Int) + 1 := wrap_i64 (by omega) (by omega)
    have q1 := @between_run i0 r0 c0 p.a p.b l n (by omega)
    have q2 := @between_run i1 r1 c1 p.a p.b l' n (by omega)
    rw [e1] at q1
    rw [e2] at q2
    simp only [sheetC, rowsD, spD, spC] at q1 q2
    by_cases t1 : Y.lo ≤ X.hi
    · have t2 : ¬ X.lo ≤ Y.hi := by omega
      simp [k9l1, v3, v4, v10, v19, g3, g4, hlt, hp, spD, spC, D.cells, D.one, dcore_f, s33, c0', c1', q1, q2, hw1, hfr, Nat.add_assoc, n3, n4, t1, t2]
      refine ⟨k - 1, by omega, _, _, i + 1, rfl, by omega, by simp [v3], by simp [v4], by simp [g3, sheetC, rowsD, n3], by simp [g4, sheetC, rowsD, n4], by simp [v2], by simp [v7], by simp [v8], by simp [v10, spsD, spC], by simp, ?_, by simp <;> omega⟩
      repeat' first | exact hf | apply Heap.Fr.bump | apply Heap.Fr.set
      all_goals (simp <;> omega)
    · simp [k9l1, v3, v4, v10, v19, g3, g4, hlt, hp, spD, spC, D.cells, D.one, dcore_f, s33, c0', c1', q1, q2, hw1, hfr, Nat.add_assoc, n3, n4, t1]
      refine ⟨k - 1, by omega, _, _, i + 1, rfl, by omega, by simp [v3], by simp [v4], by simp [g3, sheetC, rowsD, n3], by simp [g4, sheetC, rowsD, n4], by simp [v2], by simp [v7], by simp [v8], by simp [v10, spsD, spC], by simp, ?_, by simp <;> omega⟩
      repeat' first | exact hf | apply Heap.Fr.bump | apply Heap.Fr.set
      all_goals (simp <;> omega)
  · simp [k9l1, v10, v19, hlt]
    exact ⟨_, _, i, rfl, by omega, by simp [v3], by simp [v4], by simp [g3, sheetC, rowsD], by simp [g4, sheetC, rowsD], by simp [v2], by simp [v7], by simp [v8], by simp [v10, spsD, spD, spC], by simp [v19], hf.bump _, by simp <;> omega⟩
end Go.Proofs.YtomiigdpggeacaaDoor
/- Whatever two sheets and number it is called with, the code of SheetTogether returns true. -/
namespace Go.Proofs.YtomiigdpggeacaaDoor
open Go Go.Em
set_option maxRecDepth 100000
set_option maxHeartbeats 16000000 in
theorem together_law (si sr sc : Int) (rows : List Rw) (ti tr tc : Int) (rows' : List Rw) (nn : Int) {f : Nat} (hn : 5000 ≤ f) : pureCall (rc pg f) 9 [.agg (sheetC si sr sc rows), .agg (sheetC ti tr tc rows'), D.int nn] = some (.ret (D.bool true)) := by
  obtain ⟨m, hm, e⟩ := body (pg := pg) (f := 9) (args := [.agg (sheetC si sr sc rows), .agg (sheetC ti tr tc rows'), D.int nn]) (show 0 < f by omega) rfl rfl
  rw [e]
  have hs := @sane_call m (by omega)
  have a1 := fun h => call_of (h := h) (pg := pg) (f := 23) rfl (sheet_canon si sr sc rows) (@trimmed_run si sr sc rows m (by omega))
  have a2 := fun h => call_of (h := h) (pg := pg) (f := 23) rfl (sheet_canon ti tr tc rows') (@trimmed_run ti tr tc rows' m (by omega))
  obtain ⟨l, hl⟩ : ∃ l, l = rows.take 60 := ⟨_, rfl⟩
  obtain ⟨l', hl'⟩ : ∃ l, l = rows'.take 60 := ⟨_, rfl⟩
  have hl60 : l.length ≤ 60 := by rw [hl, List.length_take]; omega
  have hl60' : l'.length ≤ 60 := by rw [hl', List.length_take]; omega
  rw [← hl] at a1
  rw [← hl'] at a2
  have hcn := two_canon si sr sc l ti tr sc l'
  have b1 := fun h => call_of (h := h) (pg := pg) (f := 24) rfl hcn (@meet_run si sr sc l ti tr sc l' m (by omega))
  have b3 := fun h => call_of (h := h) (pg := pg) (f := 26) rfl hcn (@apart_run si sr sc l ti tr sc l' m (by omega))
  have hA4 := where_len (fun p => decide (p.lo ≤ p.hi)) si sr sc l ti tr sc l'
  have hB4 := where_len (fun p => decide (p.hi < p.lo)) si sr sc l ti tr sc l'
  by_cases h0 : twoF si sr sc l ti tr sc l' = 0
  · have hA : ∀ p ∈ whereF (fun p => decide (p.lo ≤ p.hi)) si sr sc l ti tr sc l', BtwA si sr sc l ti tr sc l' p := fun p hp => (where_mem h0 hp).2
    have hB : ∀ p ∈ whereF (fun p => decide (p.hi < p.lo)) si sr sc l ti tr sc l', p.hi < p.lo ∧ BtwA si sr sc l ti tr sc l' p := fun p hp => ⟨by simpa using (where_mem h0 hp).1, (where_mem h0 hp).2⟩
    obtain ⟨A, hAA⟩ : ∃ A, A = whereF (fun p => decide (p.lo ≤ p.hi)) si sr sc l ti tr sc l' := ⟨_, rfl⟩
    obtain ⟨B, hBB⟩ : ∃ B, B = whereF (fun p => decide (p.hi < p.lo)) si sr sc l ti tr sc l' := ⟨_, rfl⟩
    rw [← hAA] at b1 hA4 hA
    rw [← hBB] at b3 hB4 hB
    have r1 := tog_round si sr sc l ti tr sc l' nn A B hA4 hA
    have r2 := tog_round2 si sr sc l ti tr sc l' nn A B hB4 hB
    simp only [sheetC, rowsD, spsD] at a1 a2 b1 b3
    simp only [sheetC, rowsD] at r1 r2
    simp [k9, Env.v_ini, sheetC, rowsD, D.cells, D.one, hs, a1, a2, b1, b3, h0, ev_loop]
    refine Res.endsAfter (lp_rule (l.length + l'.length + 600) _ _ r1 A.length m _ (by omega)
      ⟨_, _, 0, rfl, by omega, by simp, by simp, by simp, by simp, by simp [Env.v_ini], by simp, by simp [spsD], by simp [spsD], by simp, ?_, by simp⟩) ?_
    · repeat' first | exact Heap.Fr.empty | apply Heap.Fr.bump | apply Heap.Fr.set
      all_goals simp
    rintro x s ⟨rfl, x, h, j, rfl, hj, v3, v4, g3, g4, v2, v7, v8, v10, v12, hf, h4⟩
    simp [ev_loop]
    refine Res.endsAfter (lp_rule (l.length + l'.length + 600) _ _ r2 B.length m _ (by omega)
      ⟨_, _, 0, rfl, by omega, by simp [v3], by simp [v4], by simp [g3], by simp [g4], by simp [v2], by simp [v7], by simp [v8], by simp [v10], by simp, hf.bump _, by simp <;> omega⟩) ?_
    rintro x s ⟨rfl, x, h, j, rfl, hj, v3, v4, g3, g4, v2, v7, v8, v10, v12, hf, h4⟩
    simp [v7]
  · have h0' : (twoF si sr sc l ti tr sc l' != 0) = true := by simpa using h0
    simp only [sheetC, rowsD, spsD] at a1 a2 b1 b3
    simp [k9, Env.v_ini, sheetC, rowsD, D.cells, D.one, hs, a1, a2, b1, b3, h0, h0']
end Go.Proofs.YtomiigdpggeacaaDoor
