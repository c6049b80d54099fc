/- A set of sources; the functions that tell whether a claim or a question goes. -/
import Derived.Test.YtlfknfknlcgfcaaGreatDoorZj
namespace Go.Proofs.YtlfknfknlcgfcaaGreatDoor
open Go Go.Em
set_option maxRecDepth 100000
structure Sm (h h' : Heap) : Prop where
  n : h.next ≤ h'.next
  r : ∀ j, j < h.next → h'.raw j = h.raw j
  f : h'.Fr
theorem Sm.g {h h' : Heap} (s : Sm h h') : ∀ j, j < h.next → h'.get j = h.get j := fun j hj => by unfold Heap.get; rw [s.r j hj]
theorem Sm.trans {a b c : Heap} (x : Sm a b) (y : Sm b c) : Sm a c := ⟨Nat.le_trans x.n y.n, fun j hj => by rw [y.r j (by have := x.n; omega), x.r j hj], y.f⟩
theorem Sm.bump {h : Heap} (hf : h.Fr) (n : Nat) : Sm h (h.bump n) := ⟨by simp, fun j _ => by simp, hf.bump n⟩
def CapI (h : Heap) (c : D) (L : List Int) : Prop := c = .eref [.map (mapD L)] ∨ ∃ kc, c = .ptr kc 0 ∧ kc < h.next ∧ h.get kc = some (.cells 97 [.map (mapD L)])
def CapO (h : Heap) (c2 : D) (L : List Int) : Prop := ∃ c, CapI h c L ∧ ((c2 = .eref [.fn (.func 65) [] [c]] ∧ c = .eref [.map (mapD L)]) ∨ ∃ k3, c2 = .ptr k3 0 ∧ k3 < h.next ∧ h.get k3 = some (.cells 100 [.fn (.func 65) [] [c]]))
theorem CapI.keep {h h' : Heap} {c : D} {L : List Int} (a : CapI h c L) (hn : h.next ≤ h'.next) (hk : ∀ k cs, k < h.next → h.get k = some (.cells 97 cs) → h'.get k = some (.cells 97 cs)) : CapI h' c L := by
  rcases a with a | ⟨kc, a, b, d⟩
  · exact .inl a
  · exact .inr ⟨kc, a, by omega, hk kc _ b d⟩
theorem CapO.keep {h h' : Heap} {c : D} {L : List Int} (a : CapO h c L) (hn : h.next ≤ h'.next) (hk : ∀ k ty cs, (ty = 97 ∨ ty = 100) → k < h.next → h.get k = some (.cells ty cs) → h'.get k = some (.cells ty cs)) : CapO h' c L := by
  obtain ⟨c1, i, a⟩ := a
  refine ⟨c1, i.keep hn fun k cs h1 h2 => hk k 97 cs (.inl rfl) h1 h2, ?_⟩
  rcases a with a | ⟨k3, a, b, d⟩
  · exact .inl a
  · exact .inr ⟨k3, a, by omega, hk k3 100 _ (.inr rfl) b d⟩
theorem CapO.sm {h h' : Heap} {c : D} {L : List Int} (a : CapO h c L) (s : Sm h h') : CapO h' c L := a.keep s.n fun k ty cs _ h1 h2 => by rw [s.g k h1]; exact h2
theorem CapI.sm {h h' : Heap} {c : D} {L : List Int} (a : CapI h c L) (s : Sm h h') : CapI h' c L := a.keep s.n fun k cs h1 h2 => by rw [s.g k h1]; exact h2
set_option maxHeartbeats 2000000 in
theorem left_sh {L : List Int} {c : D} (v : Int) {h : Heap} (hf : h.Fr) (hc : CapI h c L) {n : Nat} (hn : 1 ≤ n) : ∃ h', (rc pg n).fn 65 [D.int v, c] h = some (.ret (D.bool (!hasI L v)), h') ∧ Sm h h' := by
  obtain ⟨m, rfl, e⟩ := fn_body (pg := pg) (f := 65) (args := [D.int v, c]) (h := h) (show 0 < n by omega) rfl rfl
  rw [e]
  have hof : D.of (.bool false) = D.val (.bool false) := rfl
  have sm : Sm h ((h.bump 8).bump 8) := (Sm.bump hf 8).trans (Sm.bump (hf.bump 8) 8)
  rcases hc with rfl | ⟨kc, rfl, hk, hg⟩
  · rcases find_has v L with ⟨h1, h2⟩ | ⟨h1, j, h2, h3, h4⟩
    · simp [-findD, k65, Env.v_ini, h1, h2, hof]
      exact sm
    · simp [-findD, k65, Env.v_ini, h1, h2]
      exact sm
  · rcases find_has v L with ⟨h1, h2⟩ | ⟨h1, j, h2, h3, h4⟩
    · simp [-findD, k65, Env.v_ini, h1, h2, hg, hof]
      exact sm
    · simp [-findD, k65, Env.v_ini, h1, h2, hg]
      exact sm
set_option maxHeartbeats 4000000 in
theorem goC_sh {L : List Int} {c2 : D} (r : Clm) {h : Heap} (hf : h.Fr) (hc : CapO h c2 L) {n : Nat} (hn : 2 ≤ n) : ∃ h', (rc pg n).fn 132 [.agg (clC r), c2] h = some (.ret (D.bool (hasI L r.by_)), h') ∧ Sm h h' := by
  obtain ⟨m, rfl, e⟩ := fn_body (pg := pg) (f := 132) (args := [.agg (clC r), c2]) (h := h) (show 0 < n by omega) rfl rfl
  rw [e]
  have hfr : ∀ j, h.raw (h.next + j) = none := fun j => hf _ (by omega)
  obtain ⟨c, ci, hc⟩ := hc
  have sm : Sm h (((h.bump 9).set (h.next + 2) (some (.cells 96 (clC r)))).bump 9) := ⟨by simp <;> omega, fun j hj => by simp; omega, by
    repeat' first | exact hf | apply Heap.Fr.bump | apply Heap.Fr.set
    all_goals (simp <;> omega)⟩
  obtain ⟨h1, e1, s1⟩ := left_sh (L := L) (c := c) r.by_ sm.f (ci.sm sm) (n := m) (by omega)
  have c1 := call_sh (pg := pg) (show pg.sh 65 = true from rfl) e1
  rcases hc with ⟨rfl, _⟩ | ⟨k3, rfl, hk, hg⟩
  · simp only [clC] at c1
    simp [k132, Env.v_ini, clC, D.cells, D.one, hfr, c1]
    exact sm.trans s1
  · have ne : ∀ j, (k3 = h.next + j) = False := fun j => by simp; omega
    simp only [clC] at c1
    simp [k132, Env.v_ini, clC, D.cells, D.one, hfr, c1, hg, ne]
    exact sm.trans s1
theorem one_ch (l : List (List Clm)) : (chD l).one = true := rfl
set_option maxHeartbeats 4000000 in
theorem goQ_sh {L : List Int} {c2 : D} (r : Qst) {h : Heap} (hf : h.Fr) (hc : CapO h c2 L) {n : Nat} (hn : 2 ≤ n) : ∃ h', (rc pg n).fn 135 [.agg (qC r), c2] h = some (.ret (D.bool (hasI L r.b)), h') ∧ Sm h h' := by
  obtain ⟨m, rfl, e⟩ := fn_body (pg := pg) (f := 135) (args := [.agg (qC r), c2]) (h := h) (show 0 < n by omega) rfl rfl
  rw [e]
  have hfr : ∀ j, h.raw (h.next + j) = none := fun j => hf _ (by omega)
  obtain ⟨c, ci, hc⟩ := hc
  have sm : Sm h (((h.bump 9).set (h.next + 2) (some (.cells 83 (qC r)))).bump 9) := ⟨by simp <;> omega, fun j hj => by simp; omega, by
    repeat' first | exact hf | apply Heap.Fr.bump | apply Heap.Fr.set
    all_goals (simp <;> omega)⟩
  obtain ⟨h1, e1, s1⟩ := left_sh (L := L) (c := c) r.b sm.f (ci.sm sm) (n := m) (by omega)
  have c1 := call_sh (pg := pg) (show pg.sh 65 = true from rfl) e1
  rcases hc with ⟨rfl, _⟩ | ⟨k3, rfl, hk, hg⟩
  · simp only [qC] at c1
    simp [k135, Env.v_ini, qC, cells_a, one_i, one_ch, hfr, c1]
    exact sm.trans s1
  · have ne : ∀ j, (k3 = h.next + j) = False := fun j => by simp; omega
    simp only [qC] at c1
    simp [k135, Env.v_ini, qC, cells_a, one_i, one_ch, hfr, c1, hg, ne]
    exact sm.trans s1
set_option maxHeartbeats 1000000 in
theorem setof_round (h0 : Heap) (l : List Int) (hl : l.length ≤ 20000000000000) : ∀ n, 0 ≤ n → ∀ k s, SI h0 l k s → Res (k63l0.ev ⟨pg, 19, none⟩ (rc pg n) s) (Rnd (SI h0 l) (fun x s => x = .exit 0 ∧ SI h0 l 0 s) k) := by
  rintro n hn k s ⟨x, h, i, b, rfl, hik, v9, v10, v11, v3, hg, hb, hf, hb0, hu1, hu2⟩
  simp only [intsD] at v9
  by_cases hi : i < l.length
  · obtain ⟨c, hc⟩ : ∃ c, l[i] = c := ⟨_, rfl⟩
    have htk : l.take (i + 1) = l.take i ++ [c] := by rw [List.take_add_one, List.getElem?_eq_getElem hi, hc]; rfl
    have hsn := setF_snoc (l.take i) c
    rw [← htk] at hsn
    have w1 : IntKind.i64.wrap ((i : Int) + 1) = (i : Int) + 1 := wrap_i64 (by omega) (by omega)
    rcases find_in c (setF (l.take i)) 0 with ⟨h1, h2⟩ | ⟨j, h1, h2, h3⟩
    · rw [if_neg h1] at hsn
      have hs2 := mapD_snoc (setF (l.take i)) c
      simp [-findD, k63l0, v9, v10, v11, v3, hi, hc, D.cells, w1, hg, h2, hs2]
      refine ⟨k - 1, by omega, _, _, i + 1, b, rfl, by omega, by simp [v9, intsD], by simp [v10], by simp, by simp [v3], by simp [hsn], by simp; omega, ?_, hb0, by simp; omega, fun q hq => ?_⟩
      · repeat' first | exact hf | apply Heap.Fr.bump | apply Heap.Fr.set
        all_goals (simp <;> omega)
      · have := hu2 q hq
        simp [show q ≠ b by omega, this]
    · rw [if_pos (by rw [← h3]; exact List.getElem_mem h2)] at hsn
      have hs2 := set_mapD (setF (l.take i)) j c h2 h3
      rw [Nat.zero_add] at h1
      simp [-findD, k63l0, v9, v10, v11, v3, hi, hc, D.cells, w1, hg, h1, hs2]
      refine ⟨k - 1, by omega, _, _, i + 1, b, rfl, by omega, by simp [v9, intsD], by simp [v10], by simp, by simp [v3], by simp [hsn], by simp; omega, ?_, hb0, by simp; omega, fun q hq => ?_⟩
      · repeat' first | exact hf | apply Heap.Fr.bump | apply Heap.Fr.set
        all_goals (simp <;> omega)
      · have := hu2 q hq
        simp [show q ≠ b by omega, this]
  · simp [k63l0, v10, v11, hi]
    exact ⟨_, _, i, b, rfl, by omega, by simp [v9, intsD], by simp [v10], by simp [v11], by simp [v3], by simp [hg], by simp; omega, hf.bump _, hb0, by simp; omega, fun q hq => by simpa using hu2 q hq⟩
theorem frz_mapr {h : Heap} {b : Nat} {L : List Int} (hg : h.get b = some (.map (mapD L))) (n : Nat) : Go.Em.frz h (n + 2) (.mapr b) = some (.map (mapD L), [b]) := by
  conv => lhs; unfold Go.Em.frz
  rw [if_neg (by simp [D.canon])]
  simp only [hg, eachE_can h n L, Option.map_some]
theorem setof_run (l : List Int) (hl : l.length ≤ 20000000000000) {n : Nat} (hn : l.length + 5 ≤ n) : pureCall (rc pg n) 63 [intsD l] = some (.ret (.map (mapD (setF l)))) := by
  obtain ⟨m, rfl, e⟩ := body (pg := pg) (f := 63) (args := [intsD l]) (show 0 < n by omega) rfl rfl
  rw [e]
  simp [k63, Env.v_ini, intsD, ev_loop]
  refine Res.endsAfter (lp_rule 0 (SI .empty l) _ (setof_round .empty l hl) l.length m _ (by omega) ⟨_, _, 0, 27, rfl, by omega, by simp [intsD], by simp, by simp, by simp, by simp [setF, mapD], by simp, ?_, by simp, by simp, fun q hq => by simp at hq⟩) ?_
  · repeat' first | exact Heap.Fr.empty | apply Heap.Fr.bump | apply Heap.Fr.set
    all_goals simp
  · rintro x s ⟨rfl, x, h', i, b, rfl, hi, v9, v10, v11, v3, hg, hb, hf, hb0, hu1, hu2⟩
    have hil : i = l.length := by omega
    subst hil
    rw [List.take_length] at hg
    have hz := fun n => frz_mapr (h := h'.bump 19) (b := b) (L := setF l) (by simpa using hg) n
    simp [v3, hz]
end Go.Proofs.YtlfknfknlcgfcaaGreatDoor
/- The first claim that goes. -/
namespace Go.Proofs.YtlfknfknlcgfcaaGreatDoor
open Go Go.Em
set_option maxRecDepth 100000
def XgCI (L : List Int) (c2 : D) (l : List Clm) (k : Nat) (s : St) : Prop := ∃ (x : Env 19) (h : Heap) (i : Nat), s = ⟨x.l, h, []⟩ ∧ i + k = l.length ∧ x.v 0 = clsD l ∧ x.v 1 = .fn (.func 132) [] [c2] ∧ x.v 7 = D.int l.length ∧ x.v 8 = D.int i ∧ ixP (fun c => hasI L c.by_) 0 l = ixP (fun c => hasI L c.by_) i (l.drop i) ∧ h.Fr ∧ CapO h c2 L
def XgCQ (L : List Int) (l : List Clm) (x : Ex) (s : St) : Prop :=
  (x = .exit 0 ∧ ixP (fun c => hasI L c.by_) 0 l = -1 ∧ ∃ (x : Env 19) (h : Heap), s = ⟨x.l, h, []⟩) ∨ (x = .ret ∧ ∃ (x : Env 19) (h : Heap), s = ⟨x.l, h, []⟩ ∧ x.v 4 = D.int (ixP (fun c => hasI L c.by_) 0 l))
set_option maxHeartbeats 4000000 in
theorem xgC_round (L : List Int) (c2 : D) (l : List Clm) (hl : l.length ≤ 20000000000000) : ∀ n, 2 ≤ n → ∀ k s, XgCI L c2 l k s → Res (k161l0.ev ⟨pg, 19, none⟩ (rc pg n) s) (Rnd (XgCI L c2 l) (XgCQ L l) k) := by
  rintro n hn k s ⟨x, h, i, rfl, hik, v0, v1, v7, v8, ho, hf, hc⟩
  simp only [clsD] at v0
  by_cases hlt : i < l.length
  · obtain ⟨r, hr⟩ : ∃ r, l[i] = r := ⟨l[i], rfl⟩
    have hd : l.drop i = r :: l.drop (i + 1) := by rw [List.drop_eq_getElem_cons hlt, hr]
    rw [hd, ixP] at ho
    have hw1 : IntKind.i64.wrap ((i : Int) + 1) = (i : Int) + 1 := wrap_i64 (by omega) (by omega)
    have sm : Sm h (((h.bump 19).bump 19).bump 19) := ((Sm.bump hf 19).trans (Sm.bump (hf.bump 19) 19)).trans (Sm.bump ((hf.bump 19).bump 19) 19)
    obtain ⟨h1, e1, s1⟩ := goC_sh (L := L) (c2 := c2) r sm.f (hc.sm sm) (n := n) hn
    have c1 := call_sh (pg := pg) (show pg.sh 132 = true from rfl) e1
    have s2 := sm.trans s1
    have hc2 := hc.sm s2
    have hf2 := s2.f
    simp only [clC] at c1
    cases he : hasI L r.by_ with
    | true =>
      rw [he] at c1
      simp only [he, if_true] at ho
      simp [k161l0, v0, v1, v7, v8, hlt, hr, clD, clC, D.cells, c1]
      exact .inr ⟨rfl, _, _, rfl, by simp [ho]⟩
    | false =>
      rw [he] at c1
      simp only [he, Bool.false_eq_true, if_false] at ho
      simp [k161l0, v0, v1, v7, v8, hlt, hr, clD, clC, D.cells, c1, hw1]
      exact ⟨k - 1, by omega, _, _, i + 1, rfl, by omega, by simp [v0, clsD], by simp [v1], by simp [v7], by simp, ho, hf2.bump _, hc2.sm (Sm.bump hf2 19)⟩
  · simp [k161l0, v7, v8, hlt]
    have hi : i = l.length := by omega
    rw [hi, List.drop_length] at ho
    exact .inl ⟨rfl, ho, _, _, rfl⟩
theorem xgC_run (L : List Int) (c2 : D) (l : List Clm) (hc : CapO .empty c2 L) (hl : l.length ≤ 20000000000000) {n : Nat} (hn : l.length + 10 ≤ n) : pureCall (rc pg n) 161 [clsD l, .fn (.func 132) [] [c2]] = some (.ret (D.int (ixP (fun c => hasI L c.by_) 0 l))) := by
  obtain ⟨m, rfl, e⟩ := body (pg := pg) (f := 161) (args := [clsD l, .fn (.func 132) [] [c2]]) (show 0 < n by omega) rfl rfl
  rw [e]
  simp [k161, Env.v_ini, clsD, ev_loop]
  refine Res.endsAfter (lp_rule 2 (XgCI L c2 l) (XgCQ L l) (xgC_round L c2 l hl) l.length m _ (by omega) ⟨_, _, 0, rfl, by omega, by simp [Env.v_ini, clsD], by simp [Env.v_ini], by simp, by simp, rfl, by repeat' first | exact Heap.Fr.empty | apply Heap.Fr.bump, hc.keep (by simp) (fun k ty cs _ h1 _ => by simp at h1)⟩) ?_
  rintro x s (⟨rfl, ho, x, h, rfl⟩ | ⟨rfl, x, h, rfl, v4⟩)
  · simp [ho]
  · simp [v4]
def XgQI (L : List Int) (c2 : D) (l : List Qst) (k : Nat) (s : St) : Prop := ∃ (x : Env 19) (h : Heap) (i : Nat), s = ⟨x.l, h, []⟩ ∧ i + k = l.length ∧ x.v 0 = qsD l ∧ x.v 1 = .fn (.func 135) [] [c2] ∧ x.v 7 = D.int l.length ∧ x.v 8 = D.int i ∧ ixP (fun c => hasI L c.b) 0 l = ixP (fun c => hasI L c.b) i (l.drop i) ∧ h.Fr ∧ CapO h c2 L
def XgQQ (L : List Int) (l : List Qst) (x : Ex) (s : St) : Prop :=
  (x = .exit 0 ∧ ixP (fun c => hasI L c.b) 0 l = -1 ∧ ∃ (x : Env 19) (h : Heap), s = ⟨x.l, h, []⟩) ∨ (x = .ret ∧ ∃ (x : Env 19) (h : Heap), s = ⟨x.l, h, []⟩ ∧ x.v 4 = D.int (ixP (fun c => hasI L c.b) 0 l))
set_option maxHeartbeats 4000000 in
theorem xgQ_round (L : List Int) (c2 : D) (l : List Qst) (hl : l.length ≤ 20000000000000) : ∀ n, 2 ≤ n → ∀ k s, XgQI L c2 l k s → Res (k175l0.ev ⟨pg, 19, none⟩ (rc pg n) s) (Rnd (XgQI L c2 l) (XgQQ L l) k) := by
  rintro n hn k s ⟨x, h, i, rfl, hik, v0, v1, v7, v8, ho, hf, hc⟩
  simp only [qsD] at v0
  by_cases hlt : i < l.length
  · obtain ⟨r, hr⟩ : ∃ r, l[i] = r := ⟨l[i], rfl⟩
    have hd : l.drop i = r :: l.drop (i + 1) := by rw [List.drop_eq_getElem_cons hlt, hr]
    rw [hd, ixP] at ho
    have hw1 : IntKind.i64.wrap ((i : Int) + 1) = (i : Int) + 1 := wrap_i64 (by omega) (by omega)
    have sm : Sm h (((h.bump 19).bump 19).bump 19) := ((Sm.bump hf 19).trans (Sm.bump (hf.bump 19) 19)).trans (Sm.bump ((hf.bump 19).bump 19) 19)
    obtain ⟨h1, e1, s1⟩ := goQ_sh (L := L) (c2 := c2) r sm.f (hc.sm sm) (n := n) hn
    have c1 := call_sh (pg := pg) (show pg.sh 135 = true from rfl) e1
    have s2 := sm.trans s1
    have hc2 := hc.sm s2
    have hf2 := s2.f
    simp only [qC] at c1
    cases he : hasI L r.b with
    | true =>
      rw [he] at c1
      simp only [he, if_true] at ho
      simp [k175l0, v0, v1, v7, v8, hlt, hr, qD, qC, cells_a, c1]
      exact .inr ⟨rfl, _, _, rfl, by simp [ho]⟩
    | false =>
      rw [he] at c1
      simp only [he, Bool.false_eq_true, if_false] at ho
      simp [k175l0, v0, v1, v7, v8, hlt, hr, qD, qC, cells_a, c1, hw1]
      exact ⟨k - 1, by omega, _, _, i + 1, rfl, by omega, by simp [v0, qsD], by simp [v1], by simp [v7], by simp, ho, hf2.bump _, hc2.sm (Sm.bump hf2 19)⟩
  · simp [k175l0, v7, v8, hlt]
    have hi : i = l.length := by omega
    rw [hi, List.drop_length] at ho
    exact .inl ⟨rfl, ho, _, _, rfl⟩
theorem xgQ_run (L : List Int) (c2 : D) (l : List Qst) (hc : CapO .empty c2 L) (hl : l.length ≤ 20000000000000) {n : Nat} (hn : l.length + 10 ≤ n) : pureCall (rc pg n) 175 [qsD l, .fn (.func 135) [] [c2]] = some (.ret (D.int (ixP (fun c => hasI L c.b) 0 l))) := by
  obtain ⟨m, rfl, e⟩ := body (pg := pg) (f := 175) (args := [qsD l, .fn (.func 135) [] [c2]]) (show 0 < n by omega) rfl rfl
  rw [e]
  simp [k175, Env.v_ini, qsD, ev_loop]
  refine Res.endsAfter (lp_rule 2 (XgQI L c2 l) (XgQQ L l) (xgQ_round L c2 l hl) l.length m _ (by omega) ⟨_, _, 0, rfl, by omega, by simp [Env.v_ini, qsD], by simp [Env.v_ini], by simp, by simp, rfl, by repeat' first | exact Heap.Fr.empty | apply Heap.Fr.bump, hc.keep (by simp) (fun k ty cs _ h1 _ => by simp at h1)⟩) ?_
  rintro x s (⟨rfl, ho, x, h, rfl⟩ | ⟨rfl, x, h, rfl, v4⟩)
  · simp [ho]
  · simp [v4]
end Go.Proofs.YtlfknfknlcgfcaaGreatDoor
/- Claims and questions are taken out of a list in the heap. -/
namespace Go.Proofs.YtlfknfknlcgfcaaGreatDoor
open Go Go.Em
set_option maxRecDepth 100000
structure ST (t : Nat) (h h' : Heap) : Prop where
  n : h.next ≤ h'.next
  g : ∀ j ty cs, ty ≠ t → j < h.next → h.get j = some (.cells ty cs) → h'.get j = some (.cells ty cs)
  r : ∀ j, j < h.next → h.raw j = none → h'.raw j = none
  f : h'.Fr
theorem Sm.st {h h' : Heap} (s : Sm h h') (t : Nat) : ST t h h' := ⟨s.n, fun j ty cs _ hj hg => by rw [s.g j hj]; exact hg, fun j hj hr => by rw [s.r j hj]; exact hr, s.f⟩
theorem ST.trans {t : Nat} {a b c : Heap} (x : ST t a b) (y : ST t b c) : ST t a c := ⟨Nat.le_trans x.n y.n, fun j ty cs ht hj hg => y.g j ty cs ht (by have := x.n; omega) (x.g j ty cs ht hj hg), fun j hj hr => y.r j (by have := x.n; omega) (x.r j hj hr), y.f⟩
theorem CapO.st {t : Nat} {h h' : Heap} {c : D} {L : List Int} (a : CapO h c L) (s : ST t h h') (h1 : t ≠ 97) (h2 : t ≠ 100) : CapO h' c L := a.keep s.n fun k ty cs ht hk hg => s.g k ty cs (by rcases ht with rfl | rfl <;> omega) hk hg
theorem capF {h : Heap} {c2 : D} {L : List Int} (a : CapO h c2 L) (f : Nat) (n : Nat) : ∃ ks, Go.Em.frz h (n + 9) (.fn (.func f) [] [c2]) = some (.fn (.func f) [] [.eref [.fn (.func 65) [] [.eref [.map (mapD L)]]]], ks) := by
  obtain ⟨c, ci, a⟩ := a
  have hm := fun k => frz_can (h := h) (n := k) (map_canon L)
  have hc : ∀ k, ∃ ks, Go.Em.frz h (k + 4) c = some (.eref [.map (mapD L)], ks) := fun k => by
    rcases ci with rfl | ⟨kc, rfl, _, hg⟩
    · exact ⟨[], frz_can (by have := map_canon L; simp only [D.canon] at this ⊢; simp [D.canonL, D.canon, this])⟩
    · refine ⟨[kc], ?_⟩
      rw [frz_ptr, hg, frzP_cells, List.drop_zero, each_cons, hm, each_nil, eachK_some]; rfl
  have hF : ∀ k, ∃ ks, Go.Em.frz h (k + 6) (.fn (.func 65) [] [c]) = some (.fn (.func 65) [] [.eref [.map (mapD L)]], ks) := fun k => by
    obtain ⟨ks, h1⟩ := hc (k + 1)
    exact ⟨[] ++ (ks ++ []), by rw [frz_fn, each_nil, each_cons, h1, each_nil, eachK_some, frzF_some]⟩
  have hE : ∃ ks, Go.Em.frz h (n + 8) c2 = some (.eref [.fn (.func 65) [] [.eref [.map (mapD L)]]], ks) := by
    obtain ⟨ks, h1⟩ := hF (n + 1)
    rcases a with ⟨rfl, rfl⟩ | ⟨k3, rfl, _, hg⟩
    · exact ⟨[], frz_can (by have := map_canon L; simp only [D.canon] at this; simp [D.canonL, D.canon, this])⟩
    · refine ⟨k3 :: (ks ++ []), ?_⟩
      rw [frz_ptr, hg, frzP_cells, List.drop_zero, each_cons, h1, each_nil, eachK_some]; rfl
  obtain ⟨ks, h1⟩ := hE
  exact ⟨[] ++ (ks ++ []), by rw [frz_fn, each_nil, each_cons, h1, each_nil, eachK_some, frzF_some]⟩
theorem cap_e (L : List Int) : CapO .empty (.eref [.fn (.func 65) [] [.eref [.map (mapD L)]]]) L := ⟨_, .inl rfl, .inl ⟨rfl, rfl⟩⟩
def HC (h : Heap) (d : D) (l : List Clm) : Prop := (l = [] ∧ d = .sl false []) ∨ ∃ k cs, d = .slr k 0 l.length 5 none ∧ h.get k = some (.cells 96 cs) ∧ cs.take (l.length * 5) = l.flatMap clC ∧ l.length * 5 ≤ cs.length ∧ k < h.next
theorem HC.frzn {h : Heap} {d : D} {l : List Clm} (g : HC h d l) (n : Nat) : ∃ ks, Go.Em.frz h (n + 2) d = some (clsD l, ks) := by
  rcases g with ⟨rfl, rfl⟩ | ⟨k, cs, rfl, hg, hc, hl, _⟩
  · exact ⟨[], rfl⟩
  · have hea := each_canon h n (l.flatMap clC) (cells_canon l)
    refine ⟨[k], ?_⟩
    rw [frz_slr, hg, frzS_cells]
    simp only [List.drop_zero, Nat.zero_add]
    rw [if_pos ⟨by omega, by omega⟩, hc, hea]
    simp only [Option.map_some, cells_chunk l _ rfl]; rfl
theorem HC.keep {h h' : Heap} {d : D} {l : List Clm} (g : HC h d l) (hn : h.next ≤ h'.next) (hk : ∀ k cs, k < h.next → h.get k = some (.cells 96 cs) → h'.get k = some (.cells 96 cs)) : HC h' d l := by
  rcases g with g | ⟨k, cs, a, b, c, e, f⟩
  · exact .inl g
  · exact .inr ⟨k, cs, a, hk k _ f b, c, e, by omega⟩
def DxCI (h0 : Heap) (k : Nat) (c2 : D) (L : List Int) (l : List Clm) (m : Nat) (s : St) : Prop := ∃ (x : Env 42) (h : Heap) (i j : Nat) (cs : List Clm), s = ⟨x.l, h, []⟩ ∧ j + m = l.length ∧ i < j ∧ x.v 0 = .slr k 0 l.length 5 none ∧ x.v 1 = .fn (.func 132) [] [c2] ∧ x.v 5 = D.int i ∧ x.v 6 = D.int j ∧
  h.get k = some (.cells 96 (cs.flatMap clC)) ∧ cs.length = l.length ∧ cs.take i = (l.take j).filter (fun c => !hasI L c.by_) ∧ cs.drop j = l.drop j ∧ CapO h c2 L ∧ ST 96 h0 h ∧ h.Fr ∧ k < h.next
set_option maxHeartbeats 8000000 in
theorem dxC_round (h0 : Heap) (k : Nat) (c2 : D) (L : List Int) (l : List Clm) (hl : l.length ≤ 20000000000000) : ∀ n, 4 ≤ n → ∀ m s, DxCI h0 k c2 L l m s → Res (k131l0.ev ⟨pg, 42, none⟩ (rc pg n) s) (Rnd (DxCI h0 k c2 L l) (fun x s => x = .exit 0 ∧ DxCI h0 k c2 L l 0 s) m) := by
  rintro n hn m s ⟨x, h, i, j, cs, rfl, hjm, hij, v0, v1, v5, v6, hg, hcl, hti, hdj, ht, hst, hf, hk⟩
  have hfr : ∀ j, h.raw (h.next + j) = none := fun j => hf _ (by omega)
  have ne1 : ∀ j, (k = h.next + j) = False := fun j => by simp; omega
  have ne2 : ∀ j, (h.next + j = k) = False := fun j => by simp; omega
  by_cases hlt : j < l.length
  · obtain ⟨r, hr⟩ : ∃ r, l[j] = r := ⟨l[j], rfl⟩
    have hjc : j < cs.length := by omega
    have hcj : cs[j] = r := by
      have h1 := List.drop_eq_getElem_cons hlt
      have h2 := List.drop_eq_getElem_cons hjc
      rw [hdj, h1] at h2
      rw [← hr]; exact (List.cons.inj h2).1.symm
    have hdj' : cs.drop (j + 1) = l.drop (j + 1) := by
      rw [← List.drop_drop, ← List.drop_drop, hdj]
    have htake : l.take (j + 1) = l.take j ++ [r] := by rw [List.take_add_one, List.getElem?_eq_getElem hlt, hr]; rfl
    have hw1 : IntKind.i64.wrap ((j : Int) + 1) = (j : Int) + 1 := wrap_i64 (by omega) (by omega)
    have hw2 : IntKind.i64.wrap ((i : Int) + 1) = (i : Int) + 1 := wrap_i64 (by omega) (by omega)
    have hil : i < l.length := by omega
    have hgl := cells_len cs
    have hgc := cells_get cs j hjc
    rw [hcj] at hgc
    have hle : j * 5 + 5 ≤ cs.length * 5 := by omega
    have hle2 : i * 5 + 5 ≤ cs.length * 5 := by omega
    have hput := put_cells cs i (by omega) r
    have hcl1 : (clC r).length = 5 := rfl
    have hcl2 : (clC r).all D.one = true := rfl
    have hcl3 : ∀ x ∈ clC r, x.one = true := List.all_eq_true.1 hcl2
    obtain ⟨H, hH⟩ : ∃ H : Heap, H = (((((h.bump 42).bump 42).set (h.next + 49) (some (.cells 96 [D.int 0, D.int 0, D.int 0, D.int 0, D.int 0]))).set (h.next + 49) (some (.cells 96 (clC r)))).bump 42) := ⟨_, rfl⟩
    have sm : Sm h H := by
      rw [hH]
      refine ⟨by simp <;> omega, fun q hq => by simp [show (q = h.next + 49) = False by simp; omega], ?_⟩
      repeat' first | exact hf | apply Heap.Fr.bump | apply Heap.Fr.set
      all_goals (simp <;> omega)
    obtain ⟨h1, e1, s1⟩ := goC_sh (L := L) (c2 := c2) r sm.f (ht.sm sm) (n := n) (by omega)
    have c1 := call_sh (pg := pg) (show pg.sh 132 = true from rfl) e1
    have gHn : H.get (h.next + 49) = some (.cells 96 (clC r)) := by rw [hH]; simp
    have hHn : H.next = h.next + 126 := by rw [hH]; simp
    have s2 := sm.trans s1
    have hn1 := s1.n
    rw [hHn] at hn1
    have g1k : h1.get k = some (.cells 96 (cs.flatMap clC)) := by rw [s2.g k hk]; exact hg
    have g1n : h1.get (h.next + 49) = some (.cells 96 (clC r)) := by rw [s1.g _ (by omega), hH]; simp
    have f1 := s2.f
    obtain ⟨C, hC⟩ : ∃ C, C = clC r := ⟨_, rfl⟩
    rw [← hC] at hgc hput hcl1 hcl2 hcl3 g1n gHn c1 hH
    have hCt : C.take 5 = C := List.take_of_length_le (by omega)
    cases he : hasI L r.by_ with
    | true =>
      rw [he] at c1
      simp [k131l0, v0, v1, v6, hlt, hg, hgl, hle, hgc, hcl1, hcl2, hCt, ← hH, gHn, c1, hw1, D.cells, hfr, Nat.add_assoc]
      exact ⟨m - 1, by omega, _, _, i, j + 1, cs, rfl, by omega, by omega, by simp [v0], by simp [v1], by simp [v5], by simp, by simp [g1k], hcl, by rw [hti, htake, List.filter_append]; simp [he], hdj', (ht.sm s2).sm (Sm.bump f1 42), hst.trans ((s2.trans (Sm.bump f1 42)).st _), f1.bump _, by simp; omega⟩
    | false =>
      rw [he] at c1
      simp [k131l0, v0, v1, v5, v6, hlt, hg, hgl, hle, hle2, hil, hgc, hcl1, hcl2, hCt, ← hH, gHn, c1, g1n, g1k, hw1, hw2, D.cells, hfr, Nat.add_assoc, hput]
      have e1' : (cs.take i).length = i := by rw [List.length_take]; omega
      have st3 : ST 96 h1 (((h1.bump 42).set k (some (.cells 96 (List.flatMap clC (List.take i cs) ++ (clC r ++ List.flatMap clC (List.drop (i + 1) cs)))))).bump 42 |>.bump 42) := by
        refine ⟨by simp <;> omega, fun q ty cs2 hty hq hgq => ?_, fun q hq hr => ?_, ?_⟩
        · have : q ≠ k := by rintro rfl; rw [g1k] at hgq; cases hgq; exact hty rfl
          simp [this, hgq]
        · have : q ≠ k := by rintro rfl; rw [Heap.raw_of_get g1k] at hr; cases hr
          simp [this, hr]
        · repeat' first | exact f1 | apply Heap.Fr.bump | apply Heap.Fr.set
          all_goals first | omega | (simp <;> omega)
      refine ⟨m - 1, by omega, _, _, i + 1, j + 1, cs.take i ++ r :: cs.drop (i + 1), rfl, by omega, by omega, by simp [v0], by simp [v1], by simp, by simp, by simp, by simp; omega, ?_, ?_, (ht.sm s2).st st3 (by decide) (by decide), hst.trans ((s2.st _).trans st3), st3.f, by simp; omega⟩
      · rw [htake, List.filter_append, ← hti, List.take_append, e1', show i + 1 - i = 1 by omega, List.take_of_length_le (show (cs.take i).length ≤ i + 1 by omega)]
        simp [he]
      · rw [List.drop_append, e1', List.drop_eq_nil_of_le (show (cs.take i).length ≤ j + 1 by omega), show j + 1 - i = (j - i) + 1 by omega, List.drop_succ_cons, List.drop_drop, show i + 1 + (j - i) = j + 1 by omega, List.nil_append, hdj']
  · simp [k131l0, v0, v6, hlt]
    have hjl : j = l.length := by omega
    exact ⟨_, _, i, j, cs, rfl, by omega, hij, by simp [v0], by simp [v1], by simp [v5], by simp [v6], by simp [hg], hcl, hti, hdj, ht.sm (Sm.bump hf 42), hst.trans ((Sm.bump hf 42).st _), hf.bump _, by simp; omega⟩
set_option maxHeartbeats 8000000 in
theorem delC_sh (k : Nat) (c2 : D) (L : List Int) (l : List Clm) (hl : l.length ≤ 20000000000000) {h : Heap} {d : D} (hf : h.Fr) (hc : CapO h c2 L) (hd : (l = [] ∧ d = .sl false []) ∨ (d = .slr k 0 l.length 5 none ∧ h.get k = some (.cells 96 (l.flatMap clC)) ∧ k < h.next))
    {n : Nat} (hn : l.length + 20 ≤ n) : ∃ d' h', (rc pg n).fn 131 [d, .fn (.func 132) [] [c2]] h = some (.ret d', h') ∧ HC h' d' (l.filter fun c => !hasI L c.by_) ∧ ST 96 h h' := by
  obtain ⟨m, rfl, e⟩ := fn_body (pg := pg) (f := 131) (args := [d, .fn (.func 132) [] [c2]]) (h := h) (show 0 < n by omega) rfl rfl
  rw [e]
  have s1 : pg.sh 161 = false := rfl
  have hfr : ∀ j, h.raw (h.next + j) = none := fun j => hf _ (by omega)
  have hix := xgC_run L _ l (cap_e L) hl (n := m) (by omega)
  have sm : Sm h ((h.bump 42).bump 42) := (Sm.bump hf 42).trans (Sm.bump (hf.bump 42) 42)
  have hc1 : call pg (rc pg m) 161 [d, .fn (.func 132) [] [c2]] ((h.bump 42).bump 42) = some (.ret (D.int (ixP (fun c => hasI L c.by_) 0 l)), ((h.bump 42).bump 42)) := by
    obtain ⟨ks, hz⟩ := capF (hc.sm sm) 132 15
    have hd' : ∃ ks, Go.Em.frz ((h.bump 42).bump 42) 24 d = some (clsD l, ks) := by
      rcases hd with ⟨rfl, rfl⟩ | ⟨rfl, hg, hk⟩
      · exact ⟨[], rfl⟩
      · exact HC.frzn (.inr ⟨k, _, rfl, by rw [sm.g k hk]; exact hg, List.take_of_length_le (by rw [cells_len]; omega), by rw [cells_len]; omega, by simp; omega⟩) 22
    obtain ⟨ks', hz'⟩ := hd'
    exact callfz (bs := [clsD l, .fn (.func 132) [] [.eref [.fn (.func 65) [] [.eref [.map (mapD L)]]]]]) s1 (by rw [depth_is, each_cons, each_cons, hz', hz, each_nil, eachK_some, eachK_some]) hix (by simp [Out.d, D.flat])
  rcases ixP_ge (fun c => hasI L c.by_) l 0 with ⟨h1, h2⟩ | ⟨i, h1, h2, h3, h4, h5⟩
  · have hfl : l.filter (fun c => !hasI L c.by_) = l := List.filter_eq_self.2 fun v hv => by simp [h2 v hv]
    rw [h1] at hc1
    rw [hfl]
    simp [k131, Env.v_ini, hc1]
    have sm4 : Sm h ((((h.bump 42).bump 42).bump 42).bump 42) := sm.trans ((Sm.bump sm.f 42).trans (Sm.bump (sm.f.bump 42) 42))
    refine ⟨_, _, ⟨rfl, rfl⟩, ?_, sm4.st _⟩
    rcases hd with ⟨rfl, rfl⟩ | ⟨rfl, hg, hk⟩
    · exact .inl ⟨rfl, rfl⟩
    · exact .inr ⟨k, _, rfl, by rw [sm4.g k hk]; exact hg, List.take_of_length_le (by rw [cells_len]; omega), by rw [cells_len]; omega, by simp; omega⟩
  · rw [Nat.zero_add] at h1
    rw [h1] at hc1
    rcases hd with ⟨rfl, rfl⟩ | ⟨rfl, hg, hk⟩
    · simp at h2
    · have hw1 : IntKind.i64.wrap ((i : Int) + 1) = (i : Int) + 1 := wrap_i64 (by omega) (by omega)
      have hne : ((i : Int) == -1) = false := by simp
      simp [k131, Env.v_ini, hc1, hne, hw1, ev_loop]
      have sm4 : Sm h ((((h.bump 42).bump 42).bump 42).bump 42) := sm.trans ((Sm.bump sm.f 42).trans (Sm.bump (sm.f.bump 42) 42))
      refine Res.tailH (C := fun d' h' => HC h' d' (l.filter fun c => !hasI L c.by_) ∧ ST 96 h h') (lp_rule 4 (DxCI h k c2 L l) (fun x s => x = .exit 0 ∧ DxCI h k c2 L l 0 s) (dxC_round h k c2 L l hl) (l.length - (i + 1)) m _ (by omega)
        ⟨_, _, i, i + 1, l, rfl, by omega, by omega, by simp [Env.v_ini], by simp [Env.v_ini], by simp, by simp, by simpa using hg, rfl, ?_, rfl, hc.sm sm4, sm4.st _, sm4.f, by simp; omega⟩) ?_
      · have htake : l.take (i + 1) = l.take i ++ [l[i]] := by rw [List.take_add_one, List.getElem?_eq_getElem h4]; rfl
        rw [htake, List.filter_append, List.filter_eq_self.2 fun v hv => by simp [h3 v hv]]
        simp [h5]
      · rintro x s ⟨rfl, x, h', i', j, cs, rfl, hj, hij, v0, v1, v5, v6, hg', hcl, hti, hdj, ht', hst, hf', hk'⟩
        have hjl : j = l.length := by omega
        subst hjl
        rw [List.take_length] at hti
        have q1 : i' ≤ l.length := by omega
        have q2 : ¬ (i' : Int) = (l.length : Int) := by omega
        have q3 : ¬ l.length - i' = 0 := by omega
        have q4 : i' + (l.length - i') = l.length := by omega
        have q5 : i' * 5 + (l.length - i') * 5 = l.length * 5 := by omega
        have q6 := cells_len cs
        have e1 : (cs.take i').length = i' := by rw [List.length_take]; omega
        have e2 : ((cs.flatMap clC).take (i' * 5)).length = i' * 5 := by rw [List.length_take, cells_len]; omega
        simp [v0, v5, hg', sliceR, upTo, mxOk, mxCap, zerosD, q1, q2, q3, q5, q6, hcl]
        refine ⟨_, _, ⟨rfl, rfl⟩, .inr ⟨k, _, by rw [← hti, e1], by simp; rfl, ?_, ?_, by simp; omega⟩, hst.trans ⟨by simp <;> omega, fun q ty cs2 hty hq hgq => ?_, fun q hq hr => ?_, ?_⟩⟩
        · rw [← hti, e1, List.take_left' e2, take_cells]
        · rw [← hti, e1, List.length_append, e2]; omega
        · have : q ≠ k := by rintro rfl; rw [hg'] at hgq; cases hgq; exact hty rfl
          simp [this, hgq]
        · have : q ≠ k := by rintro rfl; rw [Heap.raw_of_get hg'] at hr; cases hr
          simp [this, hr]
        · repeat' first | exact hf' | apply Heap.Fr.bump | apply Heap.Fr.set
          all_goals first | omega | (simp <;> omega)
theorem qs_get (l : List Qst) (j : Nat) (hj : j < l.length) : ((l.flatMap qC).drop (j * 2)).take 2 = qC l[j] := by
  induction l generalizing j with
  | nil => simp at hj
  | cons a l ih =>
    cases j with
    | zero => simp [List.take_append]; rfl
    | succ j =>
      rw [List.flatMap_cons, Nat.succ_mul, Nat.add_comm, ← List.drop_drop]
      have : (qC a ++ l.flatMap qC).drop 2 = l.flatMap qC := List.drop_left' rfl
      rw [this]
      simpa using ih j (by simpa using hj)
theorem qs_take : ∀ (cs : List Qst) (i : Nat), (cs.flatMap qC).take (i * 2) = (cs.take i).flatMap qC
  | [], i => by simp
  | a :: cs, 0 => by simp
  | a :: cs, i + 1 => by
    rw [List.take_succ_cons, List.flatMap_cons, List.flatMap_cons, ← qs_take cs i, Nat.succ_mul, List.take_append, List.take_of_length_le (by simp [qC])]
    congr 2
theorem qs_drop : ∀ (cs : List Qst) (i : Nat), (cs.flatMap qC).drop (i * 2) = (cs.drop i).flatMap qC
  | [], i => by simp
  | a :: cs, 0 => by simp
  | a :: cs, i + 1 => by
    rw [List.drop_succ_cons, ← qs_drop cs i, Nat.succ_mul, Nat.add_comm, ← List.drop_drop, List.flatMap_cons]
    have e5 : (qC a ++ cs.flatMap qC).drop 2 = cs.flatMap qC := List.drop_left' rfl
    rw [e5]
theorem qs_put (cs : List Qst) (i : Nat) (_hi : i < cs.length) (r : Qst) : (cs.flatMap qC).take (i * 2) ++ (qC r ++ (cs.flatMap qC).drop (i * 2 + 2)) = (cs.take i ++ r :: cs.drop (i + 1)).flatMap qC := by
  rw [List.flatMap_append, List.flatMap_cons, qs_take, show i * 2 + 2 = (i + 1) * 2 by omega, qs_drop]
def HQ (h : Heap) (d : D) (l : List Qst) : Prop := (l = [] ∧ d = .sl false []) ∨ ∃ k cs, d = .slr k 0 l.length 2 none ∧ h.get k = some (.cells 83 cs) ∧ cs.take (l.length * 2) = l.flatMap qC ∧ l.length * 2 ≤ cs.length ∧ k < h.next
theorem HQ.frzn {h : Heap} {d : D} {l : List Qst} (g : HQ h d l) (n : Nat) : ∃ ks, Go.Em.frz h (n + 2) d = some (qsD l, ks) := by
  rcases g with ⟨rfl, rfl⟩ | ⟨k, cs, rfl, hg, hc, hl, _⟩
  · exact ⟨[], rfl⟩
  · have hea := each_canon h n (l.flatMap qC) (qs_cellsC l)
    refine ⟨[k], ?_⟩
    rw [frz_slr, hg, frzS_cells]
    simp only [List.drop_zero, Nat.zero_add]
    rw [if_pos ⟨by omega, by omega⟩, hc, hea]
    simp only [Option.map_some, qs_chunk l _ rfl]; rfl
theorem HQ.keep {h h' : Heap} {d : D} {l : List Qst} (g : HQ h d l) (hn : h.next ≤ h'.next) (hk : ∀ k cs, k < h.next → h.get k = some (.cells 83 cs) → h'.get k = some (.cells 83 cs)) : HQ h' d l := by
  rcases g with g | ⟨k, cs, a, b, c, e, f⟩
  · exact .inl g
  · exact .inr ⟨k, cs, a, hk k _ f b, c, e, by omega⟩
def DxQI (h0 : Heap) (k : Nat) (c2 : D) (L : List Int) (l : List Qst) (m : Nat) (s : St) : Prop := ∃ (x : Env 42) (h : Heap) (i j : Nat) (cs : List Qst), s = ⟨x.l, h, []⟩ ∧ j + m = l.length ∧ i < j ∧ x.v 0 = .slr k 0 l.length 2 none ∧ x.v 1 = .fn (.func 135) [] [c2] ∧ x.v 5 = D.int i ∧ x.v 6 = D.int j ∧
  h.get k = some (.cells 83 (cs.flatMap qC)) ∧ cs.length = l.length ∧ cs.take i = (l.take j).filter (fun c => !hasI L c.b) ∧ cs.drop j = l.drop j ∧ CapO h c2 L ∧ ST 83 h0 h ∧ h.Fr ∧ k < h.next
set_option maxHeartbeats 8000000 in
theorem dxQ_round (h0 : Heap) (k : Nat) (c2 : D) (L : List Int) (l : List Qst) (hl : l.length ≤ 20000000000000) : ∀ n, 4 ≤ n → ∀ m s, DxQI h0 k c2 L l m s → Res (k133l0.ev ⟨pg, 42, none⟩ (rc pg n) s) (Rnd (DxQI h0 k c2 L l) (fun x s => x = .exit 0 ∧ DxQI h0 k c2 L l 0 s) m) := by
  rintro n hn m s ⟨x, h, i, j, cs, rfl, hjm, hij, v0, v1, v5, v6, hg, hcl, hti, hdj, ht, hst, hf, hk⟩
  have hfr : ∀ j, h.raw (h.next + j) = none := fun j => hf _ (by omega)
  have ne1 : ∀ j, (k = h.next + j) = False := fun j => by simp; omega
  have ne2 : ∀ j, (h.next + j = k) = False := fun j => by simp; omega
  by_cases hlt : j < l.length
  · obtain ⟨r, hr⟩ : ∃ r, l[j] = r := ⟨l[j], rfl⟩
    have hjc : j < cs.length := by omega
    have hcj : cs[j] = r := by
      have h1 := List.drop_eq_getElem_cons hlt
      have h2 := List.drop_eq_getElem_cons hjc
      rw [hdj, h1] at h2
      rw [← hr]; exact (List.cons.inj h2).1.symm
    have hdj' : cs.drop (j + 1) = l.drop (j + 1) := by
      rw [← List.drop_drop, ← List.drop_drop, hdj]
    have htake : l.take (j + 1) = l.take j ++ [r] := by rw [List.take_add_one, List.getElem?_eq_getElem hlt, hr]; rfl
    have hw1 : IntKind.i64.wrap ((j : Int) + 1) = (j : Int) + 1 := wrap_i64 (by omega) (by omega)
    have hw2 : IntKind.i64.wrap ((i : Int) + 1) = (i : Int) + 1 := wrap_i64 (by omega) (by omega)
    have hil : i < l.length := by omega
    have hgl := qs_len cs
    have hgc := qs_get cs j hjc
    rw [hcj] at hgc
    have hle : j * 2 + 2 ≤ cs.length * 2 := by omega
    have hle2 : i * 2 + 2 ≤ cs.length * 2 := by omega
    have hput := qs_put cs i (by omega) r
    have hcl1 : (qC r).length = 2 := rfl
    have hcl2 : (qC r).all D.one = true := rfl
    have hcl3 : ∀ x ∈ qC r, x.one = true := List.all_eq_true.1 hcl2
    obtain ⟨H, hH⟩ : ∃ H : Heap, H = (((((h.bump 42).bump 42).set (h.next + 49) (some (.cells 83 [D.int 0, .val (.slice none 0 0)]))).set (h.next + 49) (some (.cells 83 (qC r)))).bump 42) := ⟨_, rfl⟩
    have sm : Sm h H := by
      rw [hH]
      refine ⟨by simp <;> omega, fun q hq => by simp [show (q = h.next + 49) = False by simp; omega], ?_⟩
      repeat' first | exact hf | apply Heap.Fr.bump | apply Heap.Fr.set
      all_goals (simp <;> omega)
    obtain ⟨h1, e1, s1⟩ := goQ_sh (L := L) (c2 := c2) r sm.f (ht.sm sm) (n := n) (by omega)
    have c1 := call_sh (pg := pg) (show pg.sh 135 = true from rfl) e1
    have gHn : H.get (h.next + 49) = some (.cells 83 (qC r)) := by rw [hH]; simp
    have hHn : H.next = h.next + 126 := by rw [hH]; simp
    have s2 := sm.trans s1
    have hn1 := s1.n
    rw [hHn] at hn1
    have g1k : h1.get k = some (.cells 83 (cs.flatMap qC)) := by rw [s2.g k hk]; exact hg
    have g1n : h1.get (h.next + 49) = some (.cells 83 (qC r)) := by rw [s1.g _ (by omega), hH]; simp
    have f1 := s2.f
    obtain ⟨C, hC⟩ : ∃ C, C = qC r := ⟨_, rfl⟩
    rw [← hC] at hgc hput hcl1 hcl2 hcl3 g1n gHn c1 hH
    have hCt : C.take 2 = C := List.take_of_length_le (by omega)
    cases he : hasI L r.b with
    | true =>
      rw [he] at c1
      simp [k133l0, v0, v1, v6, hlt, hg, hgl, hle, hgc, hcl1, hcl2, hCt, ← hH, gHn, c1, hw1, D.cells, hfr, Nat.add_assoc]
      exact ⟨m - 1, by omega, _, _, i, j + 1, cs, rfl, by omega, by omega, by simp [v0], by simp [v1], by simp [v5], by simp, by simp [g1k], hcl, by rw [hti, htake, List.filter_append]; simp [he], hdj', (ht.sm s2).sm (Sm.bump f1 42), hst.trans ((s2.trans (Sm.bump f1 42)).st _), f1.bump _, by simp; omega⟩
    | false =>
      rw [he] at c1
      simp [k133l0, v0, v1, v5, v6, hlt, hg, hgl, hle, hle2, hil, hgc, hcl1, hcl2, hCt, ← hH, gHn, c1, g1n, g1k, hw1, hw2, D.cells, hfr, Nat.add_assoc, hput]
      have e1' : (cs.take i).length = i := by rw [List.length_take]; omega
      have st3 : ST 83 h1 (((h1.bump 42).set k (some (.cells 83 (List.flatMap qC (List.take i cs) ++ (qC r ++ List.flatMap qC (List.drop (i + 1) cs)))))).bump 42 |>.bump 42) := by
        refine ⟨by simp <;> omega, fun q ty cs2 hty hq hgq => ?_, fun q hq hr => ?_, ?_⟩
        · have : q ≠ k := by rintro rfl; rw [g1k] at hgq; cases hgq; exact hty rfl
          simp [this, hgq]
        · have : q ≠ k := by rintro rfl; rw [Heap.raw_of_get g1k] at hr; cases hr
          simp [this, hr]
        · repeat' first | exact f1 | apply Heap.Fr.bump | apply Heap.Fr.set
          all_goals first | omega | (simp <;> omega)
      refine ⟨m - 1, by omega, _, _, i + 1, j + 1, cs.take i ++ r :: cs.drop (i + 1), rfl, by omega, by omega, by simp [v0], by simp [v1], by simp, by simp, by simp, by simp; omega, ?_, ?_, (ht.sm s2).st st3 (by decide) (by decide), hst.trans ((s2.st _).trans st3), st3.f, by simp; omega⟩
      · rw [htake, List.filter_append, ← hti, List.take_append, e1', show i + 1 - i = 1 by omega, List.take_of_length_le (show (cs.take i).length ≤ i + 1 by omega)]
        simp [he]
      · rw [List.drop_append, e1', List.drop_eq_nil_of_le (show (cs.take i).length ≤ j + 1 by omega), show j + 1 - i = (j - i) + 1 by omega, List.drop_succ_cons, List.drop_drop, show i + 1 + (j - i) = j + 1 by omega, List.nil_append, hdj']
  · simp [k133l0, v0, v6, hlt]
    have hjl : j = l.length := by omega
    exact ⟨_, _, i, j, cs, rfl, by omega, hij, by simp [v0], by simp [v1], by simp [v5], by simp [v6], by simp [hg], hcl, hti, hdj, ht.sm (Sm.bump hf 42), hst.trans ((Sm.bump hf 42).st _), hf.bump _, by simp; omega⟩
set_option maxHeartbeats 8000000 in
theorem delQ_sh (k : Nat) (c2 : D) (L : List Int) (l : List Qst) (hl : l.length ≤ 20000000000000) {h : Heap} {d : D} (hf : h.Fr) (hc : CapO h c2 L) (hd : (l = [] ∧ d = .sl false []) ∨ (d = .slr k 0 l.length 2 none ∧ h.get k = some (.cells 83 (l.flatMap qC)) ∧ k < h.next))
    {n : Nat} (hn : l.length + 20 ≤ n) : ∃ d' h', (rc pg n).fn 133 [d, .fn (.func 135) [] [c2]] h = some (.ret d', h') ∧ HQ h' d' (l.filter fun c => !hasI L c.b) ∧ ST 83 h h' := by
  obtain ⟨m, rfl, e⟩ := fn_body (pg := pg) (f := 133) (args := [d, .fn (.func 135) [] [c2]]) (h := h) (show 0 < n by omega) rfl rfl
  rw [e]
  have s1 : pg.sh 175 = false := rfl
  have hfr : ∀ j, h.raw (h.next + j) = none := fun j => hf _ (by omega)
  have hix := xgQ_run L _ l (cap_e L) hl (n := m) (by omega)
  have sm : Sm h ((h.bump 42).bump 42) := (Sm.bump hf 42).trans (Sm.bump (hf.bump 42) 42)
  have hc1 : call pg (rc pg m) 175 [d, .fn (.func 135) [] [c2]] ((h.bump 42).bump 42) = some (.ret (D.int (ixP (fun c => hasI L c.b) 0 l)), ((h.bump 42).bump 42)) := by
    obtain ⟨ks, hz⟩ := capF (hc.sm sm) 135 15
    have hd' : ∃ ks, Go.Em.frz ((h.bump 42).bump 42) 24 d = some (qsD l, ks) := by
      rcases hd with ⟨rfl, rfl⟩ | ⟨rfl, hg, hk⟩
      · exact ⟨[], rfl⟩
      · exact HQ.frzn (.inr ⟨k, _, rfl, by rw [sm.g k hk]; exact hg, List.take_of_length_le (by rw [qs_len]; omega), by rw [qs_len]; omega, by simp; omega⟩) 22
    obtain ⟨ks', hz'⟩ := hd'
    exact callfz (bs := [qsD l, .fn (.func 135) [] [.eref [.fn (.func 65) [] [.eref [.map (mapD L)]]]]]) s1 (by rw [depth_is, each_cons, each_cons, hz', hz, each_nil, eachK_some, eachK_some]) hix (by simp [Out.d, D.flat])
  rcases ixP_ge (fun c => hasI L c.b) l 0 with ⟨h1, h2⟩ | ⟨i, h1, h2, h3, h4, h5⟩
  · have hfl : l.filter (fun c => !hasI L c.b) = l := List.filter_eq_self.2 fun v hv => by simp [h2 v hv]
    rw [h1] at hc1
    rw [hfl]
    simp [k133, Env.v_ini, hc1]
    have sm4 : Sm h ((((h.bump 42).bump 42).bump 42).bump 42) := sm.trans ((Sm.bump sm.f 42).trans (Sm.bump (sm.f.bump 42) 42))
    refine ⟨_, _, ⟨rfl, rfl⟩, ?_, sm4.st _⟩
    rcases hd with ⟨rfl, rfl⟩ | ⟨rfl, hg, hk⟩
    · exact .inl ⟨rfl, rfl⟩
    · exact .inr ⟨k, _, rfl, by rw [sm4.g k hk]; exact hg, List.take_of_length_le (by rw [qs_len]; omega), by rw [qs_len]; omega, by simp; omega⟩
  · rw [Nat.zero_add] at h1
    rw [h1] at hc1
    rcases hd with ⟨rfl, rfl⟩ | ⟨rfl, hg, hk⟩
    · simp at h2
    · have hw1 : IntKind.i64.wrap ((i : Int) + 1) = (i : Int) + 1 := wrap_i64 (by omega) (by omega)
      have hne : ((i : Int) == -1) = false := by simp
      simp [k133, Env.v_ini, hc1, hne, hw1, ev_loop]
      have sm4 : Sm h ((((h.bump 42).bump 42).bump 42).bump 42) := sm.trans ((Sm.bump sm.f 42).trans (Sm.bump (sm.f.bump 42) 42))
      refine Res.tailH (C := fun d' h' => HQ h' d' (l.filter fun c => !hasI L c.b) ∧ ST 83 h h') (lp_rule 4 (DxQI h k c2 L l) (fun x s => x = .exit 0 ∧ DxQI h k c2 L l 0 s) (dxQ_round h k c2 L l hl) (l.length - (i + 1)) m _ (by omega)
        ⟨_, _, i, i + 1, l, rfl, by omega, by omega, by simp [Env.v_ini], by simp [Env.v_ini], by simp, by simp, by simpa using hg, rfl, ?_, rfl, hc.sm sm4, sm4.st _, sm4.f, by simp; omega⟩) ?_
      · have htake : l.take (i + 1) = l.take i ++ [l[i]] := by rw [List.take_add_one, List.getElem?_eq_getElem h4]; rfl
        rw [htake, List.filter_append, List.filter_eq_self.2 fun v hv => by simp [h3 v hv]]
        simp [h5]
      · rintro x s ⟨rfl, x, h', i', j, cs, rfl, hj, hij, v0, v1, v5, v6, hg', hcl, hti, hdj, ht', hst, hf', hk'⟩
        have hjl : j = l.length := by omega
        subst hjl
        rw [List.take_length] at hti
        have q1 : i' ≤ l.length := by omega
        have q2 : ¬ (i' : Int) = (l.length : Int) := by omega
        have q3 : ¬ l.length - i' = 0 := by omega
        have q4 : i' + (l.length - i') = l.length := by omega
        have q5 : i' * 2 + (l.length - i') * 2 = l.length * 2 := by omega
        have q6 := qs_len cs
        have e1 : (cs.take i').length = i' := by rw [List.length_take]; omega
        have e2 : ((cs.flatMap qC).take (i' * 2)).length = i' * 2 := by rw [List.length_take, qs_len]; omega
        simp [v0, v5, hg', sliceR, upTo, mxOk, mxCap, zerosD, q1, q2, q3, q5, q6, hcl]
        refine ⟨_, _, ⟨rfl, rfl⟩, .inr ⟨k, _, by rw [← hti, e1], by simp; rfl, ?_, ?_, by simp; omega⟩, hst.trans ⟨by simp <;> omega, fun q ty cs2 hty hq hgq => ?_, fun q hq hr => ?_, ?_⟩⟩
        · rw [← hti, e1, List.take_left' e2, qs_take]
        · rw [← hti, e1, List.length_append, e2]; omega
        · have : q ≠ k := by rintro rfl; rw [hg'] at hgq; cases hgq; exact hty rfl
          simp [this, hgq]
        · have : q ≠ k := by rintro rfl; rw [Heap.raw_of_get hg'] at hr; cases hr
          simp [this, hr]
        · repeat' first | exact hf' | apply Heap.Fr.bump | apply Heap.Fr.set
          all_goals first | omega | (simp <;> omega)
end Go.Proofs.YtlfknfknlcgfcaaGreatDoor
