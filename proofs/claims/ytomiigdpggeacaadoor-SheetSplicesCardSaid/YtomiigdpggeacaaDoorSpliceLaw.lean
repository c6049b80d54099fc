/- Whatever sheet, rows and numbers it is called with, the code of SheetSplices returns true. -/
import Derived.Test.YtomiigdpggeacaaDoorClone
namespace Go.Proofs.YtomiigdpggeacaaDoor
open Go Go.Em
set_option maxRecDepth 100000
theorem at_up {i r c : Int} {l rows : List Rw} {p q : Nat} (h0 : chkF i r c l = 0) (hL : chkF i r c (splF l p q rows) = 0) (hpq : p < q) (hq : q < l.length) {v : Int} {x : Nat} (hv : atF c v l = (x : Int)) (hx : x ≤ p) : atF c v (splF l p q rows) = (x : Int) := by
  obtain ⟨h1, h2, h3⟩ := at_row (chk_core h0).1 hv
  have hlen := spl_len l rows hpq hq
  have hx' : x < (splF l p q rows).length := by omega
  have e := spl_up l rows hpq hq hx hx'
  have := row_at (chk_core hL).1 (chk_ok hL) (chk_core hL).2 hx' (by rw [e]; exact h2)
  rw [e, h3] at this; exact this
theorem at_down {i r c : Int} {l rows : List Rw} {p q : Nat} (h0 : chkF i r c l = 0) (hL : chkF i r c (splF l p q rows) = 0) (hpq : p < q) (hq : q < l.length) {v : Int} {x : Nat} (hv : atF c v l = (x : Int)) (hx : q ≤ x) : atF c v (splF l p q rows) = ((p + 1 + rows.length + (x - q) : Nat) : Int) := by
  obtain ⟨h1, h2, h3⟩ := at_row (chk_core h0).1 hv
  have hlen := spl_len l rows hpq hq
  have hx' : p + 1 + rows.length + (x - q) < (splF l p q rows).length := by omega
  have e := spl_down l rows hpq hx h1 hx'
  have := row_at (chk_core hL).1 (chk_ok hL) (chk_core hL).2 hx' (by rw [e]; exact h2)
  rw [e, h3] at this; exact this
def k8a : Cd := .region [⟨none, (some 3), .inl (.box 25 4 (.s 0))⟩, ⟨none, (some 5), .inl (.box 34 2 (.s 2))⟩, ⟨none, (some 6), .inl (.mv (.c (.bool false)))⟩]
def k8b : Cd := .region [⟨none, (some 32), .inr (.fn 10 [])⟩, ⟨none, (some 7), .inl (.mv (.s 32))⟩]
def k8c : Cd := .region [⟨none, (some 33), .inl (.ld true 4 (.s 3))⟩, ⟨none, (some 34), .inr (.fn 23 [(.s 33)])⟩, ⟨none, none, .inl (.st 4 (.s 3) (.s 34))⟩]
def k8d : Cd := .region [⟨none, (some 35), .inl (.mv (.s 1))⟩, ⟨none, (some 36), .inr (.fn 29 [(.s 35)])⟩, ⟨none, (some 1), .inl (.mv (.s 36))⟩]
def k8e : Cd := .region [⟨none, (some 37), .inl (.ld true 4 (.s 3))⟩, ⟨none, (some 38), .inr (.fn 30 [(.s 37)])⟩, ⟨none, (some 8), .inl (.mv (.s 38))⟩]
def k8T : Cd := match k8 with
  | .seq _ (.seq _ (.seq _ (.seq _ (.seq _ t)))) => t
  | _ => .skip
theorem k8_eq : k8 = .seq k8a (.seq k8b (.seq k8c (.seq k8d (.seq k8e k8T)))) := rfl
/-- What stands when the marks are known. -/
structure SpS (i r c : Int) (l rows : List Rw) (n0 n1 : Int) (x : Env 239) (h : Heap) (d : D) : Prop where
  v1 : x.v 1 = rowsD rows
  v3 : x.v 3 = .ptr 3 0
  v5 : x.v 5 = .ptr 5 0
  v7 : x.v 7 = D.bool true
  v8 : x.v 8 = d
  g3 : h.get 3 = some (.cells 25 (sheetC i r c l))
  g5 : h.get 5 = some (.cells 34 [D.int n0, D.int n1])
  hf : h.Fr
  h5 : 5 < h.next
  hd : Gb 6 h d (shMarks i r c l)
set_option maxHeartbeats 4000000 in
theorem splices_head (si sr sc : Int) (rows0 rows1 : List Rw) (n0 n1 : Int) {m : Nat} (hm : 1000 ≤ m) :
    Res ((Cd.seq k8a (.seq k8b (.seq k8c (.seq k8d k8e)))).ev ⟨pg, 239, none⟩ (rc pg m) { e := (Env.ini 239 [.agg (sheetC si sr sc rows0), rowsD rows1, .agg [D.int n0, D.int n1]]).l, h := .empty, df := [] })
      fun y s => y = .normal ∧ ∃ (x : Env 239) (h : Heap) (d : D), s = ⟨x.l, h, []⟩ ∧ SpS si sr sc (rows0.take 60) (rows1.take 60) n0 n1 x h d := by
  have hs := @sane_call m (by omega)
  have a1 := fun h => call_of (h := h) (pg := pg) (f := 23) rfl (sheet_canon si sr sc rows0) (@trimmed_run si sr sc rows0 m (by omega))
  have a2 := fun h => call_of (h := h) (pg := pg) (f := 29) rfl (rows_canon rows1) (@cut_run rows1 m (by omega))
  obtain ⟨l, hl⟩ : ∃ l, l = rows0.take 60 := ⟨_, rfl⟩
  obtain ⟨rows, hr⟩ : ∃ l, l = rows1.take 60 := ⟨_, rfl⟩
  have hl60 : l.length ≤ 60 := by rw [hl, List.length_take]; omega
  rw [← hl] at a1 ⊢
  rw [← hr] at a2 ⊢
  obtain ⟨H, hH⟩ : ∃ H : Heap, H = ((((((((Heap.empty.bump 239).set 3 (some (.cells 25 (sheetC si sr sc rows0)))).set 5 (some (.cells 34 [D.int n0, D.int n1]))).bump 239).bump 239).set 3 (some (.cells 25 (sheetC si sr sc l)))).bump 239).bump 239) := ⟨_, rfl⟩
  have hHf : H.Fr := by
    rw [hH]
    repeat' first | exact Heap.Fr.empty | apply Heap.Fr.bump | apply Heap.Fr.set
    all_goals simp
  obtain ⟨d, h', e, hG, hU, hF, hN⟩ := marks_sh si sr sc l hHf (n := m) (by omega)
  have q := call_sh (pg := pg) rfl e
  have hHn : H.next = 1195 := by rw [hH]; simp
  have g3 : h'.get 3 = some (.cells 25 (sheetC si sr sc l)) := by rw [get_of_raw (hU 3 (by omega)), hH]; simp
  have g5 : h'.get 5 = some (.cells 34 [D.int n0, D.int n1]) := by rw [get_of_raw (hU 5 (by omega)), hH]; simp
  rw [hH] at q
  simp only [sheetC, rowsD] at a1 a2 q
  simp [k8a, k8b, k8c, k8d, k8e, Env.v_ini, sheetC, rowsD, D.cells, D.one, hs, a1, a2, q]
  refine ⟨_, _, ⟨rfl, rfl⟩, d, ⟨by simp [rowsD], by simp, by simp, by simp, by simp, g3, g5, hF, by omega, ?_⟩⟩
  rcases hG with h4 | ⟨k, h4, h5, h6, h7⟩
  · exact .inl h4
  · exact .inr ⟨k, h4, h5, h6, by omega⟩
end Go.Proofs.YtomiigdpggeacaaDoor
/- SheetSplices: what the law does with the marks. -/
namespace Go.Proofs.YtomiigdpggeacaaDoor
open Go Go.Em
set_option maxRecDepth 100000
theorem splices_few (i r c : Int) (l rows : List Rw) (n0 n1 : Int) (x : Env 239) (h : Heap) (d : D) (s : SpS i r c l rows n0 n1 x h d) (hM : (shMarks i r c l).length < 2) {m : Nat} :
    endK (rc pg m) [(.tmp 6, false, 0)] (k8T.ev ⟨pg, 239, none⟩ (rc pg m) { e := x.l, h := h, df := [] }) = some (.ret (D.bool true)) := by
  obtain ⟨v1, v3, v5, v7, v8, g3, g5, hf, h5, hd⟩ := s
  rcases hd with ⟨h1, rfl⟩ | ⟨k, rfl, h2, h3, h4⟩
  · simp [k8T, k8, v7, v8]
  · have h6 : ((shMarks i r c l).length : Int) < 2 := by omega
    simp [k8T, k8, v7, v8, h6]
theorem ints_getD (M : List Int) {i : Nat} (h : i < M.length) (d : D) : (M.map D.int).getD i d = D.int M[i] := by
  simp [List.getD_eq_getElem?_getD, h]
set_option maxHeartbeats 40000000 in
theorem splices_many (i r c : Int) (l rows : List Rw) (n0 n1 : Int) (hl60 : l.length ≤ 60) (hr60 : rows.length ≤ 60) (x : Env 239) (h : Heap) (d : D) (s : SpS i r c l rows n0 n1 x h d) (hM2 : ¬ (shMarks i r c l).length < 2) {m : Nat} (hm : 4000 ≤ m) :
    endK (rc pg m) [(.tmp 6, false, 0)] (k8T.ev ⟨pg, 239, none⟩ (rc pg m) { e := x.l, h := h, df := [] }) = some (.ret (D.bool true)) := by
  obtain ⟨v1, v3, v5, v7, v8, g3, g5, hf, h5, hd⟩ := s
  have h0 : chkF i r c l = 0 := by
    apply Decidable.byContradiction; intro h
    apply hM2; unfold shMarks; rw [if_neg h]; simp
  have hMF : shMarks i r c l = marksF c l := by unfold shMarks; rw [if_pos h0]
  have hlenM : (shMarks i r c l).length ≤ 60 := by have := marks_len c l; rw [hMF]; omega
  obtain ⟨hc, ho⟩ := chk_core h0
  have hrise := (marks_rise c l _ ho).1
  have hplace := fun j hj => @mark_place_of i r c l h0 j hj
  have hple := fun {j k} hjk hk {p q} hp hq => @place_le i r c l h0 j k hjk hk p q hp hq
  rw [← hMF] at hrise
  simp only [← hMF] at hplace hple
  obtain ⟨M, hMM⟩ : ∃ M, M = shMarks i r c l := ⟨_, rfl⟩
  rw [← hMM] at hd hM2 hlenM hrise
  simp only [← hMM] at hplace hple
  rcases hd with ⟨h1, rfl⟩ | ⟨k, rfl, gk, hk1, hk2⟩
  · rw [h1] at hM2; simp at hM2
  obtain ⟨a, ha⟩ : ∃ a : Nat, (a : Int) = n0 % ((M.length : Int) - 1) := ⟨(n0 % ((M.length : Int) - 1)).toNat, by have := Int.emod_nonneg n0 (show (M.length : Int) - 1 ≠ 0 by omega); omega⟩
  have hal : a < M.length - 1 := by have := Int.emod_lt_of_pos n0 (show (0 : Int) < (M.length : Int) - 1 by omega); omega
  obtain ⟨b0, hb0⟩ : ∃ b : Nat, (b : Int) = n1 % ((M.length : Int) - 1 - a) := ⟨(n1 % ((M.length : Int) - 1 - a)).toNat, by have := Int.emod_nonneg n1 (show (M.length : Int) - 1 - a ≠ 0 by omega); omega⟩
  have hbl0 : a + 1 + b0 < M.length := by have := Int.emod_lt_of_pos n1 (show (0 : Int) < (M.length : Int) - 1 - a by omega); omega
  obtain ⟨b, hb⟩ : ∃ b, b = a + 1 + b0 := ⟨_, rfl⟩
  have hbl : b < M.length := by omega
  have hal' : a < M.length := by omega
  obtain ⟨z, hz⟩ : ∃ z, z = M.length - 1 := ⟨_, rfl⟩
  have hzl : z < M.length := by omega
  have h0l : 0 < M.length := by omega
  have q0 := fun h => call_of (h := h) (pg := pg) (f := 31) rfl rfl (@mod_run n0 ((M.length : Int) - 1) (by omega) (by omega) m (by omega))
  have q1 := fun h => call_of (h := h) (pg := pg) (f := 31) rfl rfl (@mod_run n1 ((M.length : Int) - 1 - a) (by omega) (by omega) m (by omega))
  rw [← ha] at q0
  rw [← hb0] at q1
  have w1 : IntKind.i64.wrap ((M.length : Int) - 1) = (M.length : Int) - 1 := wrap_i64 (by omega) (by omega)
  have w2 : IntKind.i64.wrap ((M.length : Int) - 1 - a) = (M.length : Int) - 1 - a := wrap_i64 (by omega) (by omega)
  have w3 : IntKind.i64.wrap ((a : Int) + 1) = (a : Int) + 1 := wrap_i64 (by omega) (by omega)
  have w4 : IntKind.i64.wrap ((a : Int) + 1 + b0) = (b : Int) := by rw [wrap_i64 (by omega) (by omega)]; omega
  have hM2' : ¬ (M.length : Int) < 2 := by omega
  obtain ⟨A, hA⟩ : ∃ A, M[a] = A := ⟨_, rfl⟩
  obtain ⟨B, hB⟩ : ∃ B, M[b] = B := ⟨_, rfl⟩
  obtain ⟨O, hO⟩ : ∃ O, M[0] = O := ⟨_, rfl⟩
  obtain ⟨Z, hZ⟩ : ∃ Z, M[z] = Z := ⟨_, rfl⟩
  obtain ⟨p, hp, ap⟩ := hplace a hal'
  obtain ⟨q, hq, aq⟩ := hplace b hbl
  obtain ⟨p0, hp0, ap0⟩ := hplace 0 h0l
  obtain ⟨t, ht, at'⟩ := hplace z hzl
  have hAB : A < B := by rw [← hA, ← hB]; exact List.pairwise_iff_getElem.1 hrise a b hal' hbl (by omega)
  have hpq0 := hple (show a ≤ b by omega) hbl ap aq
  have hp0p := hple (show 0 ≤ a by omega) hal' ap0 ap
  have hqt := hple (show b ≤ z by omega) hzl aq at'
  rw [hA] at ap
  rw [hB] at aq
  rw [hO] at ap0
  rw [hZ] at at'
  have hpq : p < q := by
    rcases Nat.eq_or_lt_of_le hpq0 with he | he
    · obtain ⟨_, _, e1⟩ := at_row hc ap
      obtain ⟨_, _, e2⟩ := at_row hc aq
      subst he; rw [e1] at e2; omega
    · exact he
  have hqT : q ≤ t := hqt
  have i1 := spl_same l hpq
  have y1 := @rowsb_run i r c A B l h0 p q ap aq hpq (by omega) m (by omega)
  have hin : (innF l p q).length ≤ 60 := by unfold innF; simp; omega
  have y2 := @splice_run i r c A B l (innF l p q) h0 p q ap aq hpq (by omega) (by omega) m (by omega)
  rw [i1, if_pos h0] at y2
  have y4 := @splice_run i r c A B l rows h0 p q ap aq hpq (by omega) (by omega) m (by omega)
  have y3 := fun h => call_of (h := h) (pg := pg) (f := 13) rfl (two_canon i r c l i r c l) (@sameSh_run i r c l (by omega) m (by omega))
  have hcI := rows_canonL (innF l p q)
  obtain ⟨I, hI⟩ : ∃ I, I = innF l p q := ⟨_, rfl⟩
  rw [← hI] at y1 y2 hcI
  have hbad := @spl_bad i r c l rows p q h0 hr60
  have hinn := spl_inn l rows hpq hq
  have hSlen := spl_len l rows hpq hq
  have hup := fun {v y} hv hy (hL : chkF i r c (splF l p q rows) = 0) => @at_up i r c l rows p q h0 hL hpq hq v y hv hy
  have hdn := fun {v y} hv hy (hL : chkF i r c (splF l p q rows) = 0) => @at_down i r c l rows p q h0 hL hpq hq v y hv hy
  have m1 := fun f => mid_up f l rows hpq hq hp0p
  have m2 := fun f => mid_down f l rows hpq hq hqT
  obtain ⟨S, hS⟩ : ∃ S, S = splF l p q rows := ⟨_, rfl⟩
  rw [← hS] at y4 hbad hinn hSlen
  simp only [← hS] at hup hdn m1 m2
  have hcl := rows_canonL l
  have hcS := rows_canonL S
  have hcr := rows_canonL rows
  have s16 : pg.sh 16 = false := rfl
  have s18 : pg.sh 18 = false := rfl
  have s33 : pg.sh 33 = false := rfl
  have n3 : ∀ j, (3 = h.next + j) = False := fun j => by simp; omega
  have n5 : ∀ j, (5 = h.next + j) = False := fun j => by simp; omega
  have nk : ∀ j, (k = h.next + j) = False := fun j => by simp; omega
  have hfr : ∀ j, h.raw (h.next + j) = none := fun j => hf _ (by omega)
  have ga := fun d => ints_getD M hal' d
  have gb := fun d => ints_getD M hbl d
  have g0 := fun d => ints_getD M h0l d
  have gz := fun d => ints_getD M hzl d
  rw [hA] at ga
  rw [hB] at gb
  rw [hO] at g0
  rw [hZ] at gz
  have la : a + 1 ≤ M.length := by omega
  have lb : b + 1 ≤ M.length := by omega
  have lz : z + 1 ≤ M.length := by omega
  have l1 : 1 ≤ M.length := by omega
  have u1 : 0 ≤ (M.length : Int) - 1 := by omega
  have u1' : 1 ≤ (M.length : Int) := by omega
  have u2 : (M.length : Int) - 1 < M.length := by omega
  have u3 : ((M.length : Int) - 1).toNat = z := by omega
  simp only [sheetC, rowsD] at v1 g3 y1 y2 y3 y4
  by_cases hk : chkF i r c S = 0
  · rw [if_pos hk] at y4
    have y5 := @rowsb_run i r c A B S hk p (p + 1 + rows.length) (hup ap (Nat.le_refl _) hk) (by have := hdn aq (Nat.le_refl _) hk; simpa using this) (by omega) (by omega) m (by omega)
    rw [hinn] at y5
    have y6 := fun h => call_of (h := h) (pg := pg) (f := 22) rfl (two_rows rows rows) (@sameR_run rows (by omega) m (by omega))
    have z1 := @between_run i r c O A l m (by omega)
    have z2 := @between_run i r c O A S m (by omega)
    have z3 := @between_run i r c B Z l m (by omega)
    have z4 := @between_run i r c B Z S m (by omega)
    rw [(btw_down h0 ap0 ap hp0p).1] at z1
    rw [(btw_down hk (hup ap0 hp0p hk) (hup ap (Nat.le_refl _) hk) hp0p).1, m1, m1] at z2
    rw [(btw_down h0 aq at' hqT).1] at z3
    have haq := hdn aq (Nat.le_refl _) hk
    rw [Nat.sub_self, Nat.add_zero] at haq
    rw [(btw_down hk haq (hdn at' hqT hk) (by omega)).1, m2, m2] at z4
    simp only [sheetC, rowsD, spD, spC] at y4 y5 y6 z1 z2 z3 z4
    simp [k8T, k8, v1, v3, v5, v7, v8, g3, g5, gk, hM2', h0l, hzl, q0, q1, w1, w2, w3, w4, hal', hbl, la, lb, lz, l1, u1, u1', u2, u3, ga, gb, g0, gz, hA, hB, hO, hZ, hfr, Nat.add_assoc, n3, n5, nk, dcore_f, s16, s18, s33, hcl, hcS, hcr, hcI, y1, y2, y3, y4, y5, y6, z1, z2, z3, z4, D.cells, D.one]
  · rw [if_neg hk] at y4
    have y7 := fun h => call_of (h := h) (pg := pg) (f := 32) rfl (rows_canon rows) (@pyears_run rows m (by omega))
    simp only [sheetC, rowsD] at y4 y7
    have hk' : (chkF i r c S != 0) = true := by simpa using hk
    by_cases hy : (yearsF rows).2.2 = 0
    · have hb2 := (hbad hk).resolve_left (fun h => h hy)
      rcases hb2 with h15 | h2
      · rw [h15] at y4
        simp [k8T, k8, v1, v3, v5, v7, v8, g3, g5, gk, hM2', h0l, hzl, q0, q1, w1, w2, w3, w4, hal', hbl, la, lb, lz, l1, u1, u1', u2, u3, ga, gb, g0, gz, hA, hB, hO, hZ, hfr, Nat.add_assoc, n3, n5, nk, dcore_f, s16, s18, s33, hcl, hcS, hcr, hcI, y1, y2, y3, y4, y7, hy, D.cells, D.one]
      · rw [h2] at y4
        simp [k8T, k8, v1, v3, v5, v7, v8, g3, g5, gk, hM2', h0l, hzl, q0, q1, w1, w2, w3, w4, hal', hbl, la, lb, lz, l1, u1, u1', u2, u3, ga, gb, g0, gz, hA, hB, hO, hZ, hfr, Nat.add_assoc, n3, n5, nk, dcore_f, s16, s18, s33, hcl, hcS, hcr, hcI, y1, y2, y3, y4, y7, hy, D.cells, D.one]
    · have hy' : ((yearsF rows).2.2 != 0) = true := by simpa using hy
      simp [k8T, k8, v1, v3, v5, v7, v8, g3, g5, gk, hM2', h0l, hzl, q0, q1, w1, w2, w3, w4, hal', hbl, la, lb, lz, l1, u1, u1', u2, u3, ga, gb, g0, gz, hA, hB, hO, hZ, hfr, Nat.add_assoc, n3, n5, nk, dcore_f, s16, s18, s33, hcl, hcS, hcr, hcI, y1, y2, y3, y4, y7, hk', hy', D.cells, D.one]
theorem andThen_assoc (x : Option (Ex × St)) (f g : St → Option (Ex × St)) : andThen (andThen x f) g = andThen x (fun s => andThen (f s) g) := by
  cases x with
  | none => unfold andThen; rfl
  | some p =>
    obtain ⟨y, s⟩ := p
    cases y <;> simp
theorem ev_seqF (c : Cfg) (R : Rc) (a b : Cd) : Cd.ev c R (.seq a b) = fun s => andThen (a.ev c R s) (b.ev c R) := funext fun s => ev_seq a b s
theorem seq_five (c : Cfg) (R : Rc) (a b d e f t : Cd) (s : St) : Cd.ev c R (.seq a (.seq b (.seq d (.seq e (.seq f t))))) s = andThen (Cd.ev c R (.seq a (.seq b (.seq d (.seq e f)))) s) (t.ev c R) := by
  simp only [ev_seqF, andThen_assoc]
theorem splices_law (si sr sc : Int) (rows0 rows1 : List Rw) (n0 n1 : Int) {f : Nat} (hn : 5000 ≤ f) : pureCall (rc pg f) 8 [.agg (sheetC si sr sc rows0), rowsD rows1, .agg [D.int n0, D.int n1]] = some (.ret (D.bool true)) := by
  obtain ⟨m, hm, e⟩ := body (pg := pg) (f := 8) (args := [.agg (sheetC si sr sc rows0), rowsD rows1, .agg [D.int n0, D.int n1]]) (show 0 < f by omega) rfl rfl
  rw [e, k8_eq, seq_five]
  obtain ⟨y, s, e1, rfl, x, h, d, rfl, hS⟩ := splices_head si sr sc rows0 rows1 n0 n1 (m := m) (by omega)
  rw [e1, andThen_normal]
  by_cases hM : (shMarks si sr sc (rows0.take 60)).length < 2
  · exact splices_few _ _ _ _ _ _ _ x h d hS hM
  · exact splices_many _ _ _ _ _ _ _ (by rw [List.length_take]; omega) (by rw [List.length_take]; omega) x h d hS hM (by omega)
end Go.Proofs.YtomiigdpggeacaaDoor
