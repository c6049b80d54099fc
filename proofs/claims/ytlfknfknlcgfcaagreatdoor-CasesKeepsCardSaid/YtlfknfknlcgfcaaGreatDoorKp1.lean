/- The place of a mark among marks that rise; lists of years. -/
import Derived.Test.YtlfknfknlcgfcaaGreatDoorTz
namespace Go.Proofs.YtlfknfknlcgfcaaGreatDoor
open Go Go.Em
set_option maxRecDepth 100000
structure Dt where
  m : Int
  y : Int
def dtC (d : Dt) : List D := [D.int d.m, D.int d.y]
def dtD (d : Dt) : D := .agg (dtC d)
def dtsD (l : List Dt) : D := .sl false (l.map dtD)
theorem dt_canon (s : Dt) : (dtD s).canon = true := by simp [dtD, dtC]
theorem dts_canonL (l : List Dt) : D.canonL (l.map dtD) = true := canonL_map dtD dt_canon l
def sameF (a b : List Int) : Bool := decide (a = b)
def QI (a b : List Int) (k : Nat) (s : St) : Prop := ∃ (x : Env 26) (h : Heap) (i : Nat), s = ⟨x.l, h, []⟩ ∧ i + k = a.length ∧ x.v 0 = intsD a ∧ x.v 1 = intsD b ∧ x.v 12 = D.int a.length ∧ x.v 13 = D.int i ∧ a.take i = b.take i
def QQ (a b : List Int) (x : Ex) (s : St) : Prop := (x = .exit 0 ∧ QI a b 0 s) ∨ (x = .ret ∧ a ≠ b ∧ ∃ (x : Env 26) (h : Heap), s = ⟨x.l, h, []⟩ ∧ x.v 4 = D.bool false)
set_option maxHeartbeats 1000000 in
theorem same_round' (a b : List Int) (hab : a.length = b.length) (hl : b.length ≤ 4000) : ∀ n, 0 ≤ n → ∀ k s, QI a b k s → Res (k41l0.ev ⟨pg, 26, none⟩ (rc pg n) s) (Rnd (QI a b) (QQ a b) k) := by
  rintro n hn k s ⟨x, h, i, rfl, hik, v0, v1, v12, v13, ht⟩
  simp only [intsD] at v0 v1
  by_cases hi : i < a.length
  · have hib : i < b.length := by omega
    obtain ⟨c, hc⟩ : ∃ c, a[i] = c := ⟨_, rfl⟩
    obtain ⟨d, hd⟩ : ∃ d, b[i] = d := ⟨_, rfl⟩
    have w1 : IntKind.i64.wrap ((i : Int) + 1) = (i : Int) + 1 := wrap_i64 (by omega) (by omega)
    by_cases he : c = d
    · have he' : (c != d) = false := by simp [he]
      simp [k41l0, v0, v1, v12, v13, hi, hib, hc, hd, he', D.cells, w1]
      refine ⟨k - 1, by omega, _, _, i + 1, rfl, by omega, by simp [v0, intsD], by simp [v1, intsD], by simp [v12], by simp, ?_⟩
      rw [List.take_add_one, List.take_add_one, ht, List.getElem?_eq_getElem hi, List.getElem?_eq_getElem hib, hc, hd, he]
    · have he' : (c != d) = true := by simpa using he
      simp [k41l0, v0, v1, v12, v13, hi, hib, hc, hd, he', D.cells]
      exact .inr ⟨rfl, fun e => he (by subst e; rw [← hc, ← hd]), _, _, rfl, by simp⟩
  · simp [k41l0, v12, v13, hi]
    exact .inl ⟨rfl, _, _, i, rfl, by omega, by simp [v0, intsD], by simp [v1, intsD], by simp [v12], by simp [v13], ht⟩
theorem sameI_run (a b : List Int) (hl : b.length ≤ 4000) {n : Nat} (hn : b.length + 10 ≤ n) : pureCall (rc pg n) 41 [intsD a, intsD b] = some (.ret (D.bool (sameF a b))) := by
  obtain ⟨m, rfl, e⟩ := body (pg := pg) (f := 41) (args := [intsD a, intsD b]) (show 0 < n by omega) rfl rfl
  rw [e]
  by_cases h0 : a.length = b.length
  · have h0' : ((a.length : Int) != b.length) = false := by simp [h0]
    simp [-bne_eq_false_iff_eq, k41, Env.v_ini, intsD, h0', ev_loop]
    refine Res.endsAfter (lp_rule 0 (QI a b) _ (same_round' a b h0 hl) a.length m _ (by omega) ⟨_, _, 0, rfl, by omega, by simp [Env.v_ini, intsD], by simp [Env.v_ini, intsD], by simp, by simp, by simp⟩) ?_
    rintro x s (⟨rfl, x, h, i, rfl, hi, v0, v1, v12, v13, ht⟩ | ⟨rfl, hne, x, h, rfl, v4⟩)
    · have : a = b := by
        rw [List.take_of_length_le (show a.length ≤ i by omega), List.take_of_length_le (show b.length ≤ i by omega)] at ht
        exact ht
      simp [sameF, this]
    · simp [v4, sameF, hne]
  · have h0' : ((a.length : Int) != b.length) = true := by simp; omega
    have hne : a ≠ b := fun e => h0 (by rw [e])
    simp [k41, Env.v_ini, intsD, h0', sameF, hne]
end Go.Proofs.YtlfknfknlcgfcaaGreatDoor
/- Lists of years, by the document's own functions. -/
namespace Go.Proofs.YtlfknfknlcgfcaaGreatDoor
open Go Go.Em
set_option maxRecDepth 100000
def msF (l : List Dt) : List Int := l.map (·.m)
def DMI (l : List Dt) (k : Nat) (s : St) : Prop := ∃ (x : Env 19) (h : Heap) (i : Nat) (d : D), s = ⟨x.l, h, []⟩ ∧ i + k = l.length ∧ x.v 6 = dtsD l ∧ x.v 7 = D.int l.length ∧ x.v 8 = D.int i ∧ x.v 3 = d ∧ GL h d (msF (l.take i)) ∧ h.Fr
set_option maxHeartbeats 2000000 in
theorem mof_round (l : List Dt) (hl : l.length ≤ 10000000000000) : ∀ n, 0 ≤ n → ∀ k s, DMI l k s → Res (k112l0.ev ⟨pg, 19, none⟩ (rc pg n) s) (Rnd (DMI l) (fun x s => x = .exit 0 ∧ DMI l 0 s) k) := by
  rintro n hn k s ⟨x, h, i, d, rfl, hik, v6, v7, v8, v3, hd, hf⟩
  simp only [dtsD] at v6
  by_cases hi : i < l.length
  · obtain ⟨c, hc⟩ : ∃ c, l[i] = c := ⟨_, rfl⟩
    have htk : msF (l.take (i + 1)) = msF (l.take i) ++ [c.m] := by unfold msF; rw [List.take_add_one, List.getElem?_eq_getElem hi, hc]; simp
    obtain ⟨O, hO⟩ : ∃ O, O = msF (l.take i) := ⟨_, rfl⟩
    rw [← hO] at htk hd
    have hOl : O.length = i := by rw [hO]; unfold msF; simp; omega
    have w1 : IntKind.i64.wrap ((i : Int) + 1) = (i : Int) + 1 := wrap_i64 (by omega) (by omega)
    have hfr : ∀ j, h.raw (h.next + j) = none := fun j => hf _ (by omega)
    rcases hd with ⟨hO0, rfl⟩ | ⟨kk, rfl, hg, hkk⟩
    · subst hO0
      simp [k112l0, v6, v7, v8, v3, hi, hc, dtD, dtC, D.cells, D.one, hfr, Nat.add_assoc, w1, zerosD, apK_some, room, maxLen]
      refine ⟨k - 1, by omega, _, _, i + 1, .slr (h.next + 54) 0 1 1 none, rfl, by omega, by simp [v6, dtsD], by simp [v7], by simp, by simp, .inr ⟨h.next + 54, by simp [htk], by simp [htk], by simp <;> omega⟩, ?_⟩
      repeat' first | exact hf | apply Heap.Fr.bump | apply Heap.Fr.set
      all_goals (simp <;> omega)
    · have ne1 : ∀ j, (h.next + j = kk) = False := fun j => by simp; omega
      have ne2 : ∀ j, (kk = h.next + j) = False := fun j => by simp; omega
      have happ := fun t hh news => appS_none (t := t) (et := 3) (sz := 1) (bytes := 8) (h := hh) (m := 1) (news := news) (k := kk) (n := O.length) (cs := O.map D.int) (by simp) (by omega) (by unfold room; omega) (by unfold maxLen; omega)
      simp [k112l0, v6, v7, v8, v3, hi, hc, dtD, dtC, D.cells, D.one, hfr, Nat.add_assoc, w1, zerosD, apK_some, hg, ne1, ne2, happ]
      refine ⟨k - 1, by omega, _, _, i + 1, .slr (h.next + 54) 0 (O.length + 1) 1 none, rfl, by omega, by simp [v6, dtsD], by simp [v7], by simp, by simp, .inr ⟨h.next + 54, by simp [htk], by simp [htk], by simp <;> omega⟩, ?_⟩
      repeat' first | exact hf | apply Heap.Fr.bump | apply Heap.Fr.set
      all_goals (simp <;> omega)
  · simp [k112l0, v7, v8, hi]
    exact ⟨_, _, i, d, rfl, by omega, by simp [v6, dtsD], by simp [v7], by simp [v8], by simp [v3], hd.keep (by simp) (by simp), hf.bump _⟩
theorem mof_run (l : List Dt) (hl : l.length ≤ 10000000000000) {n : Nat} (hn : l.length + 5 ≤ n) : pureCall (rc pg n) 112 [dtsD l] = some (.ret (intsD (msF l))) := by
  obtain ⟨m, rfl, e⟩ := body (pg := pg) (f := 112) (args := [dtsD l]) (show 0 < n by omega) rfl rfl
  rw [e]
  simp [k112, Env.v_ini, dtsD, ev_loop]
  refine Res.endsAfter (lp_rule 0 (DMI l) _ (mof_round l hl) l.length m _ (by omega) ⟨_, _, 0, .val (.slice none 0 0), rfl, by omega, by simp [dtsD], by simp, by simp, by simp, .inl ⟨by simp [msF], rfl⟩, ?_⟩) ?_
  · repeat' first | exact Heap.Fr.empty | apply Heap.Fr.bump | apply Heap.Fr.set
  · rintro x s ⟨rfl, x, h, i, d, rfl, hi, v6, v7, v8, v3, hd, hf⟩
    have hil : i = l.length := by omega
    subst hil
    rw [List.take_length] at hd
    obtain ⟨ks, hz⟩ := GL.frz (hd.keep (h' := h.bump 19) (by simp) (by simp))
    simp [v3]
    exact ⟨_, hz⟩
def yrB (d : Dt) : Bool := !(inR d.y (-1000000000) 1000000000) || ((d.m == 0) && (d.y != 0))
def yrsOk (l : List Dt) : Bool := l.all fun d => !yrB d
def KYI (l : List Dt) (k : Nat) (s : St) : Prop := ∃ (x : Env 26) (h : Heap) (i : Nat), s = ⟨x.l, h, []⟩ ∧ i + k = l.length ∧ x.v 5 = dtsD l ∧ x.v 6 = D.int l.length ∧ x.v 7 = D.int i ∧ yrsOk (l.take i) = true ∧ h.Fr
def KYQ (l : List Dt) (x : Ex) (s : St) : Prop := (x = .exit 0 ∧ KYI l 0 s) ∨ (x = .ret ∧ yrsOk l = false ∧ ∃ (x : Env 26) (h : Heap), s = ⟨x.l, h, []⟩ ∧ x.v 2 = D.bool false)
theorem yrs_snoc {l : List Dt} {i : Nat} (hi : i < l.length) (h : yrsOk (l.take i) = true) (hc : yrB l[i] = false) : yrsOk (l.take (i + 1)) = true := by
  unfold yrsOk at h ⊢
  rw [List.take_add_one, List.getElem?_eq_getElem hi, List.all_append, h]
  simp [hc]
theorem yrs_bad {l : List Dt} {i : Nat} (hi : i < l.length) (hc : yrB l[i] = true) : yrsOk l = false := by
  unfold yrsOk
  rw [List.all_eq_false]
  exact ⟨l[i], List.getElem_mem hi, by simp [hc]⟩
set_option maxHeartbeats 2000000 in
theorem yrs_round (l : List Dt) (hl : l.length ≤ 10000000000000) : ∀ n, 1 ≤ n → ∀ k s, KYI l k s → Res (k113l0.ev ⟨pg, 26, none⟩ (rc pg n) s) (Rnd (KYI l) (KYQ l) k) := by
  rintro n hn k s ⟨x, h, i, rfl, hik, v5, v6, v7, hok, hf⟩
  simp only [dtsD] at v5
  by_cases hi : i < l.length
  · obtain ⟨c, hc⟩ : ∃ c, l[i] = c := ⟨_, rfl⟩
    have w1 : IntKind.i64.wrap ((i : Int) + 1) = (i : Int) + 1 := wrap_i64 (by omega) (by omega)
    have hfr : ∀ j, h.raw (h.next + j) = none := fun j => hf _ (by omega)
    have hw := fun h => @rwithin_run n (by omega) c.y (-1000000000) 1000000000 h
    have good : yrB c = false → ∀ (s' : St), (∃ (x : Env 26) (h : Heap), s' = ⟨x.l, h, []⟩ ∧ x.v 5 = dtsD l ∧ x.v 6 = D.int l.length ∧ x.v 7 = D.int (i + 1 : Nat) ∧ h.Fr) → ∃ j, k = j + 1 ∧ KYI l j s' := fun hb s' ⟨x, h, e, a, b, c', d⟩ =>
      ⟨k - 1, by omega, x, h, i + 1, e, by omega, a, b, c', yrs_snoc hi hok (by rw [hc]; exact hb), d⟩
    have badq : yrB c = true → ∀ (s' : St), (∃ (x : Env 26) (h : Heap), s' = ⟨x.l, h, []⟩ ∧ x.v 2 = D.bool false) → KYQ l .ret s' := fun hb s' q => .inr ⟨rfl, yrs_bad hi (by rw [hc]; exact hb), q⟩
    cases h1 : inR c.y (-1000000000) 1000000000 with
    | false =>
      have hb : yrB c = true := by unfold yrB; rw [h1]; rfl
      simp [k113l0, v5, v6, v7, hi, hc, dtD, dtC, D.cells, D.one, hfr, Nat.add_assoc, hw, h1]
      exact badq hb _ ⟨_, _, rfl, by simp⟩
    | true =>
      cases h2 : (c.m == 0) with
      | false =>
        have hb : yrB c = false := by unfold yrB; rw [h1, h2]; rfl
        simp [-beq_iff_eq, -beq_eq_false_iff_ne, k113l0, v5, v6, v7, hi, hc, dtD, dtC, D.cells, D.one, hfr, Nat.add_assoc, hw, h1, h2, w1]
        refine good hb _ ⟨_, _, rfl, by simp [v5, dtsD], by simp [v6], by simp, ?_⟩
        repeat' first | exact hf | apply Heap.Fr.bump | apply Heap.Fr.set
        all_goals (simp <;> omega)
      | true =>
        cases h3 : (c.y != 0) with
        | false =>
          have hb : yrB c = false := by unfold yrB; rw [h1, h2, h3]; rfl
          simp [-beq_iff_eq, -bne_eq_false_iff_eq, k113l0, v5, v6, v7, hi, hc, dtD, dtC, D.cells, D.one, hfr, Nat.add_assoc, hw, h1, h2, h3, w1]
          refine good hb _ ⟨_, _, rfl, by simp [v5, dtsD], by simp [v6], by simp, ?_⟩
          repeat' first | exact hf | apply Heap.Fr.bump | apply Heap.Fr.set
          all_goals (simp <;> omega)
        | true =>
          have hb : yrB c = true := by unfold yrB; rw [h1, h2, h3]; rfl
          simp [-beq_iff_eq, -bne_iff_ne, k113l0, v5, v6, v7, hi, hc, dtD, dtC, D.cells, D.one, hfr, Nat.add_assoc, hw, h1, h2, h3]
          exact badq hb _ ⟨_, _, rfl, by simp⟩
  · simp [k113l0, v6, v7, hi]
    exact .inl ⟨rfl, _, _, i, rfl, by omega, by simp [v5, dtsD], by simp [v6], by simp [v7], hok, hf.bump _⟩
theorem yrs_run (l : List Dt) (hl : l.length ≤ 10000000000000) {n : Nat} (hn : l.length + 5 ≤ n) : pureCall (rc pg n) 113 [dtsD l] = some (.ret (D.bool (yrsOk l))) := by
  obtain ⟨m, rfl, e⟩ := body (pg := pg) (f := 113) (args := [dtsD l]) (show 0 < n by omega) rfl rfl
  rw [e]
  simp [k113, Env.v_ini, dtsD, ev_loop]
  refine Res.endsAfter (lp_rule 1 (KYI l) _ (yrs_round l hl) l.length m _ (by omega) ⟨_, _, 0, rfl, by omega, by simp [dtsD], by simp, by simp, by simp [yrsOk], ?_⟩) ?_
  · repeat' first | exact Heap.Fr.empty | apply Heap.Fr.bump | apply Heap.Fr.set
  · rintro x s (⟨rfl, x, h, i, rfl, hi, v5, v6, v7, hok, hf⟩ | ⟨rfl, hbad, x, h, rfl, v2⟩)
    · have hil : i = l.length := by omega
      subst hil
      rw [List.take_length] at hok
      simp [hok]
    · simp [v2, hbad]
def yOf : List Dt → Int → Int
  | [], _ => 0
  | d :: l, v => if (d.m == v) = true then d.y else yOf l v
def KFI (l : List Dt) (v : Int) (k : Nat) (s : St) : Prop := ∃ (x : Env 20) (h : Heap) (i : Nat), s = ⟨x.l, h, []⟩ ∧ i + k = l.length ∧ x.v 7 = dtsD l ∧ x.v 1 = D.int v ∧ x.v 8 = D.int l.length ∧ x.v 9 = D.int i ∧ yOf l v = yOf (l.drop i) v ∧ h.Fr
def KFQ (l : List Dt) (v : Int) (x : Ex) (s : St) : Prop := (x = .exit 0 ∧ yOf l v = 0 ∧ ∃ (x : Env 20) (h : Heap), s = ⟨x.l, h, []⟩) ∨ (x = .ret ∧ ∃ (x : Env 20) (h : Heap), s = ⟨x.l, h, []⟩ ∧ x.v 4 = D.int (yOf l v))
set_option maxHeartbeats 2000000 in
theorem yof_round (l : List Dt) (hl : l.length ≤ 10000000000000) (v : Int) : ∀ n, 0 ≤ n → ∀ k s, KFI l v k s → Res (k111l0.ev ⟨pg, 20, none⟩ (rc pg n) s) (Rnd (KFI l v) (KFQ l v) k) := by
  rintro n hn k s ⟨x, h, i, rfl, hik, v7, v1, v8, v9, ho, hf⟩
  simp only [dtsD] at v7
  by_cases hi : i < l.length
  · obtain ⟨c, hc⟩ : ∃ c, l[i] = c := ⟨_, rfl⟩
    have hd : l.drop i = c :: l.drop (i + 1) := by rw [List.drop_eq_getElem_cons hi, hc]
    rw [hd, yOf] at ho
    have w1 : IntKind.i64.wrap ((i : Int) + 1) = (i : Int) + 1 := wrap_i64 (by omega) (by omega)
    have hfr : ∀ j, h.raw (h.next + j) = none := fun j => hf _ (by omega)
    cases he : (c.m == v) with
    | true =>
      rw [he, if_pos rfl] at ho
      simp [-beq_iff_eq, k111l0, v7, v1, v8, v9, hi, hc, dtD, dtC, D.cells, D.one, hfr, Nat.add_assoc, he]
      exact .inr ⟨rfl, _, _, rfl, by simp [ho]⟩
    | false =>
      rw [he, if_neg (by simp)] at ho
      simp [-beq_iff_eq, -beq_eq_false_iff_ne, k111l0, v7, v1, v8, v9, hi, hc, dtD, dtC, D.cells, D.one, hfr, Nat.add_assoc, he, w1]
      refine ⟨k - 1, by omega, _, _, i + 1, rfl, by omega, by simp [v7, dtsD], by simp [v1], by simp [v8], by simp, ho, ?_⟩
      repeat' first | exact hf | apply Heap.Fr.bump | apply Heap.Fr.set
      all_goals (simp <;> omega)
  · simp [k111l0, v8, v9, hi]
    have hil : i = l.length := by omega
    rw [hil, List.drop_length] at ho
    exact .inl ⟨rfl, ho, _, _, rfl⟩
theorem yof_run (l : List Dt) (hl : l.length ≤ 10000000000000) (v : Int) {n : Nat} (hn : l.length + 5 ≤ n) : pureCall (rc pg n) 111 [dtsD l, D.int v] = some (.ret (D.int (yOf l v))) := by
  obtain ⟨m, rfl, e⟩ := body (pg := pg) (f := 111) (args := [dtsD l, D.int v]) (show 0 < n by omega) rfl rfl
  rw [e]
  simp [k111, Env.v_ini, dtsD, ev_loop]
  refine Res.endsAfter (lp_rule 0 (KFI l v) _ (yof_round l hl v) l.length m _ (by omega) ⟨_, _, 0, rfl, by omega, by simp [dtsD], by simp [Env.v_ini], by simp, by simp, rfl, ?_⟩) ?_
  · repeat' first | exact Heap.Fr.empty | apply Heap.Fr.bump | apply Heap.Fr.set
  · rintro x s (⟨rfl, ho, x, h, rfl⟩ | ⟨rfl, x, h, rfl, v4⟩)
    · simp [ho]
    · simp [v4]
end Go.Proofs.YtlfknfknlcgfcaaGreatDoor
/- Whether years are a chronology of claims: by the program and by the document. -/
namespace Go.Proofs.YtlfknfknlcgfcaaGreatDoor
open Go Go.Em
set_option maxRecDepth 100000
theorem yof_bound : ∀ (l : List Dt) (v : Int), yrsOk l = true → -1000000000 ≤ yOf l v ∧ yOf l v ≤ 1000000000
  | [], _, _ => by unfold yOf; omega
  | d :: l, v, h => by
    unfold yrsOk at h
    rw [List.all_cons, Bool.and_eq_true] at h
    unfold yOf
    split
    · have := h.1
      unfold yrB at this
      simp only [Bool.not_or, Bool.and_eq_true, Bool.not_not, inR_eq, decide_eq_true_eq] at this
      omega
    · exact yof_bound l v h.2
def clB (d : List Dt) (c : Clm) : Bool := decide (yOf d c.b - yOf d c.a < c.lo) || decide (yOf d c.b - yOf d c.a > c.hi)
theorem clB_in (d : List Dt) (c : Clm) : inR (yOf d c.b - yOf d c.a) c.lo c.hi = !clB d c := by
  rw [inR_eq]; unfold clB
  by_cases h1 : yOf d c.b - yOf d c.a < c.lo <;> by_cases h2 : yOf d c.b - yOf d c.a > c.hi <;> simp [h1, h2] <;> omega
def clsOk (d : List Dt) (l : List Clm) : Bool := l.all fun c => !clB d c
theorem cls_snoc {d : List Dt} {l : List Clm} {i : Nat} (hi : i < l.length) (h : clsOk d (l.take i) = true) (hc : clB d l[i] = false) : clsOk d (l.take (i + 1)) = true := by
  unfold clsOk at h ⊢
  rw [List.take_add_one, List.getElem?_eq_getElem hi, List.all_append, h]
  simp [hc]
theorem cls_bad {d : List Dt} {l : List Clm} {i : Nat} (hi : i < l.length) (hc : clB d l[i] = true) : clsOk d l = false := by
  unfold clsOk
  rw [List.all_eq_false]
  exact ⟨l[i], List.getElem_mem hi, by simp [hc]⟩
def KPI (d : List Dt) (l : List Clm) (k : Nat) (s : St) : Prop := ∃ (x : Env 34) (h : Heap) (i : Nat), s = ⟨x.l, h, []⟩ ∧ i + k = l.length ∧ x.v 8 = clsD l ∧ x.v 1 = dtsD d ∧ x.v 9 = D.int l.length ∧ x.v 10 = D.int i ∧ clsOk d (l.take i) = true ∧ h.Fr
def KPQ (d : List Dt) (l : List Clm) (x : Ex) (s : St) : Prop := (x = .exit 0 ∧ KPI d l 0 s) ∨ (x = .ret ∧ clsOk d l = false ∧ ∃ (x : Env 34) (h : Heap), s = ⟨x.l, h, []⟩ ∧ x.v 4 = D.bool false)
set_option maxHeartbeats 4000000 in
theorem keeps_round (d : List Dt) (hd : d.length ≤ 10000000000000) (hy : yrsOk d = true) (l : List Clm) (hl : l.length ≤ 400) : ∀ n, d.length + 5 ≤ n → ∀ k s, KPI d l k s → Res (k44l0.ev ⟨pg, 34, none⟩ (rc pg n) s) (Rnd (KPI d l) (KPQ d l) k) := by
  rintro n hn k s ⟨x, h, i, rfl, hik, v8, v1, v9, v10, hok, hf⟩
  simp only [clsD] at v8
  by_cases hi : i < l.length
  · obtain ⟨c, hc⟩ : ∃ c, l[i] = c := ⟨_, rfl⟩
    have w1 : IntKind.i64.wrap ((i : Int) + 1) = (i : Int) + 1 := wrap_i64 (by omega) (by omega)
    have hfr : ∀ j, h.raw (h.next + j) = none := fun j => hf _ (by omega)
    have s63 : pg.sh 111 = false := rfl
    have ya := @yof_run d hd c.a n hn
    have yb := @yof_run d hd c.b n hn
    have ba := yof_bound d c.a hy
    have bb := yof_bound d c.b hy
    have w2 : IntKind.i64.wrap (yOf d c.b - yOf d c.a) = yOf d c.b - yOf d c.a := wrap_i64 (by omega) (by omega)
    have hcan := dts_canonL d
    obtain ⟨A, hA⟩ : ∃ A, A = yOf d c.a := ⟨_, rfl⟩
    obtain ⟨B, hB⟩ : ∃ B, B = yOf d c.b := ⟨_, rfl⟩
    have hbad : clB d c = (decide (B - A < c.lo) || decide (B - A > c.hi)) := by unfold clB; rw [hA, hB]
    rw [← hA] at ya w2
    rw [← hB] at yb w2
    simp only [dtsD] at v1 ya yb
    by_cases h1 : B - A < c.lo
    · have hb : clB d c = true := by rw [hbad]; simp [h1]
      simp [k44l0, v8, v1, v9, v10, hi, hc, clD, clC, D.cells, D.one, hfr, Nat.add_assoc, dcore_f, s63, hcan, ya, yb, w2, h1]
      exact .inr ⟨rfl, cls_bad hi (by rw [hc]; exact hb), _, _, rfl, by simp⟩
    · by_cases h2 : c.hi < B - A
      · have hb : clB d c = true := by rw [hbad]; simp [h2]
        simp [k44l0, v8, v1, v9, v10, hi, hc, clD, clC, D.cells, D.one, hfr, Nat.add_assoc, dcore_f, s63, hcan, ya, yb, w2, h1, h2]
        exact .inr ⟨rfl, cls_bad hi (by rw [hc]; exact hb), _, _, rfl, by simp⟩
      · have hb : clB d c = false := by rw [hbad]; simp; omega
        simp [k44l0, v8, v1, v9, v10, hi, hc, clD, clC, D.cells, D.one, hfr, Nat.add_assoc, dcore_f, s63, hcan, ya, yb, w2, h1, h2, w1]
        refine ⟨k - 1, by omega, _, _, i + 1, rfl, by omega, by simp [v8, clsD], by simp [v1, dtsD], by simp [v9], by simp, cls_snoc hi hok (by rw [hc]; exact hb), ?_⟩
        repeat' first | exact hf | apply Heap.Fr.bump | apply Heap.Fr.set
        all_goals (simp <;> omega)
  · simp [k44l0, v9, v10, hi]
    exact .inl ⟨rfl, _, _, i, rfl, by omega, by simp [v8, clsD], by simp [v1], by simp [v9], by simp [v10], hok, hf.bump _⟩
theorem cd_canon (l : List Clm) (d : List Dt) : D.canonL [clsD l, dtsD d] = true := by simp [clsD, dtsD, dts_canonL, canonL_map clD cl_canon l]
theorem keeps_run (d : List Dt) (hd : d.length ≤ 10000000000000) (hy : yrsOk d = true) (l : List Clm) (hl : l.length ≤ 400) {n : Nat} (hn : d.length + 500 ≤ n) : pureCall (rc pg n) 44 [clsD l, dtsD d] = some (.ret (D.bool (clsOk d l))) := by
  obtain ⟨m, rfl, e⟩ := body (pg := pg) (f := 44) (args := [clsD l, dtsD d]) (show 0 < n by omega) rfl rfl
  rw [e]
  simp [k44, Env.v_ini, clsD, ev_loop]
  refine Res.endsAfter (lp_rule (d.length + 5) (KPI d l) _ (keeps_round d hd hy l hl) l.length m _ (by omega) ⟨_, _, 0, rfl, by omega, by simp [clsD], by simp [Env.v_ini], by simp, by simp, by simp [clsOk], ?_⟩) ?_
  · repeat' first | exact Heap.Fr.empty | apply Heap.Fr.bump | apply Heap.Fr.set
  · rintro x s (⟨rfl, x, h, i, rfl, hi, v8, v1, v9, v10, hok, hf⟩ | ⟨rfl, hbad, x, h, rfl, v4⟩)
    · have hil : i = l.length := by omega
      subst hil
      rw [List.take_length] at hok
      simp [hok]
    · simp [v4, hbad]
end Go.Proofs.YtlfknfknlcgfcaaGreatDoor
