/- A net grows by a claim, by the program: the answer. -/
import Derived.Test.YtppfjkebamegnaaDoorGj
import Derived.Test.YtppfjkebamegnaaDoorPl
import Derived.Test.YtppfjkebamegnaaDoorBnd
namespace Go.Proofs.YtppfjkebamegnaaDoor
open Go Go.Em Go.Em.Net
set_option maxRecDepth 100000
set_option maxHeartbeats 16000000 in
theorem grow_bad {M' Z : List Int} {B : Nat → Nat → Int} {c : Clm} {p q : Nat} (hp : p < M'.length) (hq : q < M'.length) (hhi : -100000 ≤ c.hi ∧ c.hi ≤ 100000) (hbad : B p q < c.lo ∨ B q p < -c.hi) {kb mb : Nat} {ks : List Nat} {h : Heap} (t : GrH M' Z B c kb mb ks h) (y : Env 101) (v3 : y.v 3 = .ptr 3 0) (v4 : y.v 4 = .ptr 4 0) (v8 : y.v 8 = .ptr 513 0) (v9 : y.v 9 = D.int p) (v10 : y.v 10 = D.int q) {n : Nat} (hn : 1000 ≤ n) :
    endK (rc pg n) [(.cell 4 40, true, 2), (.tmp 5, false, 0)] (k19u.ev ⟨pg, 101, none⟩ (rc pg n) ⟨y.l, h, []⟩) = some (.ret (.tup [nilN, D.int 25])) := by
  have g3 := t.g3
  have g4 := t.g4
  have g8 := t.g8
  have htop := t.mat.top
  have hlk := t.mat.len
  obtain ⟨rp, r1, r2, r3, r4⟩ := t.mat.at hp
  obtain ⟨rq, s1, s2, s3, s4⟩ := t.mat.at hq
  obtain ⟨L, hL⟩ : ∃ L, L = ks.map (rowS M'.length) := ⟨_, rfl⟩
  rw [← hL] at htop r1 s1
  have hLl : L.length = M'.length := by rw [hL]; simp [hlk]
  simp only [clC] at g3
  simp only [sS, rowS] at g8 r1 s1
  simp only [nil2] at g4
  have y2 := fun a => yCs_len M'.length a
  have q1 := fun A h' => yCs_at (n := M'.length) (y := A) hp h'
  have q2 := fun A h' => yCs_at (n := M'.length) (y := A) hq h'
  have p1 : p + 1 ≤ M'.length := hp
  have p2 : q + 1 ≤ M'.length := hq
  have w1 : IntKind.i64.wrap (-c.hi) = -c.hi := wrap_i64 (by omega) (by omega)
  by_cases hb : B p q < c.lo
  · simp [k19u, v3, v4, v8, v9, v10, g3, g4, g8, htop, r1, r4, hLl, hp, hq, y2, q2, p1, p2, D.cells, D.one, hb]
    simp [nilN]
  · have hb2 : B q p < -c.hi := hbad.resolve_left hb
    simp [k19u, v3, v4, v8, v9, v10, g3, g4, g8, htop, r1, r4, s1, s4, hLl, hp, hq, y2, q1, q2, p1, p2, w1, D.cells, D.one, hb, hb2]
    simp [nilN]
set_option maxHeartbeats 16000000 in
theorem grow_ok {M' Z : List Int} (hl : M'.length ≤ 64) {W : Mx} {c : Clm} {p q : Nat} (ft : Fit M'.length W p q c.hi (-c.lo)) (hW : ∀ i j z, W i j = some z → -20000000 ≤ z ∧ z ≤ 20000000) (he : -100000 ≤ c.hi ∧ c.hi ≤ 100000) (hf : -100000 ≤ c.lo ∧ c.lo ≤ 100000) (ok : NOk M' (encM (comb (comb (Lw W p q c.hi (-c.lo)) p) q))) (hb1 : ¬ encM W p q < c.lo) (hb2 : ¬ encM W q p < -c.hi) {kb mb : Nat} {ks : List Nat} {h : Heap} (t : GrH M' Z (encM W) c kb mb ks h) (y : Env 101) (v3 : y.v 3 = .ptr 3 0) (v4 : y.v 4 = .ptr 4 0) (v8 : y.v 8 = .ptr 513 0) (v9 : y.v 9 = D.int p) (v10 : y.v 10 = D.int q) {n : Nat} (hn : 1000 ≤ n) :
    endK (rc pg n) [(.cell 4 40, true, 2), (.tmp 5, false, 0)] (k19u.ev ⟨pg, 101, none⟩ (rc pg n) ⟨y.l, h, []⟩) = some (.ret (.tup [nD M' (encM (comb (comb (Lw W p q c.hi (-c.lo)) p) q)), D.int 0])) := by
  have hp := ft.ha
  have hq := ft.hb
  have g3 := t.g3
  have g8 := t.g8
  have htop := t.mat.top
  have hlk := t.mat.len
  obtain ⟨rp, r1, r2, r3, r4⟩ := t.mat.at hp
  obtain ⟨rq, s1, s2, s3, s4⟩ := t.mat.at hq
  obtain ⟨L, hL⟩ : ∃ L, L = ks.map (rowS M'.length) := ⟨_, rfl⟩
  rw [← hL] at htop r1 s1
  have hLl : L.length = M'.length := by rw [hL]; simp [hlk]
  simp only [clC] at g3
  simp only [sS, rowS] at g8 r1 s1
  have y2 := fun a => yCs_len M'.length a
  have q1 := fun A h' => yCs_at (n := M'.length) (y := A) hp h'
  have q2 := fun A h' => yCs_at (n := M'.length) (y := A) hq h'
  have p1 : p + 1 ≤ M'.length := hp
  have p2 : q + 1 ≤ M'.length := hq
  have w1 : IntKind.i64.wrap (-c.hi) = -c.hi := wrap_i64 (by omega) (by omega)
  have t' := t.bump 101
  have fin := fun y u3 u4 u8 u9 u10 => grow_v hl ft hW he hf ok t' y u3 u4 u8 u9 u10 hn
  obtain ⟨B, hB⟩ : ∃ B, B = encM W := ⟨_, rfl⟩
  rw [← hB] at hb1 hb2 r4 s4
  simp [k19u, v3, v8, v9, v10, g3, g8, htop, r1, r4, s1, s4, hLl, hp, hq, y2, q1, q2, p1, p2, w1, hb1, hb2]
  exact fin _ (by simp [v3]) (by simp [v4]) (by simp [v8]) (by simp [v9]) (by simp [v10])
end Go.Proofs.YtppfjkebamegnaaDoor
/- A net grows by a claim, by the program: the function. -/
namespace Go.Proofs.YtppfjkebamegnaaDoor
open Go Go.Em Go.Em.Net
set_option maxRecDepth 100000
set_option maxHeartbeats 16000000 in
theorem grow_t {M' Z : List Int} (hr : Rise M') (hl : M'.length ≤ 64) {B : Nat → Nat → Int} {c : Clm} (ha : c.a ∈ M') (hb : c.b ∈ M') {kb mb : Nat} {ks : List Nat} {h : Heap} (t : GrH M' Z B c kb mb ks h) (y : Env 101) (v3 : y.v 3 = .ptr 3 0) (v4 : y.v 4 = .ptr 4 0) (v8 : y.v 8 = .ptr 513 0) {n : Nat} (hn : 1000 ≤ n) {R : Option Out}
    (fin : ∀ y : Env 101, y.v 3 = .ptr 3 0 → y.v 4 = .ptr 4 0 → y.v 8 = .ptr 513 0 → y.v 9 = D.int (placeF M' c.a) → y.v 10 = D.int (placeF M' c.b) → endK (rc pg n) [(.cell 4 40, true, 2), (.tmp 5, false, 0)] (k19u.ev ⟨pg, 101, none⟩ (rc pg n) ⟨y.l, h.bump 101, []⟩) = R) :
    endK (rc pg n) [(.cell 4 40, true, 2), (.tmp 5, false, 0)] (k19t.ev ⟨pg, 101, none⟩ (rc pg n) ⟨y.l, h, []⟩) = R := by
  have g3 := t.g3
  have g8 := t.g8
  have ml := t.ml
  have c1 := fun s1 s2 d wt (y : Env 101) b H h1 h2 hg => place_dc (v := c.a) hr hl (n := n) (by omega) s1 s2 d wt y b H h1 h2 (Z := Z) (kb := kb) hg
  have c2 := fun s1 s2 d wt (y : Env 101) b H h1 h2 hg => place_dc (v := c.b) hr hl (n := n) (by omega) s1 s2 d wt y b H h1 h2 (Z := Z) (kb := kb) hg
  rw [pos_of ha] at c1
  rw [pos_of hb] at c2
  obtain ⟨p, hp⟩ : ∃ p, p = placeF M' c.a := ⟨_, rfl⟩
  obtain ⟨q, hq⟩ : ∃ q, q = placeF M' c.b := ⟨_, rfl⟩
  rw [← hp] at c1 fin
  rw [← hq] at c2 fin
  simp only [clC] at g3
  simp only [sS, rowS] at g8 c1 c2
  simp [k19t, v3, v8, g3, g8, ml, c1, c2]
  exact fin _ (by simp [v3]) (by simp [v4]) (by simp [v8]) (by simp) (by simp)
set_option maxHeartbeats 16000000 in
theorem grow_run (l : List Clm) (c : Clm) (h0 : chkF l = 0) (hb : badF l = false) (h1 : chkF (l ++ [c]) = 0) {n : Nat} (hn : 200000 ≤ n) : pureCall (rc pg n) 19 [nD (marksF l) (encM (cloF l)), clD c] = some (.ret (.tup [if badF (l ++ [c]) = false then nD (marksF (l ++ [c])) (encM (cloF (l ++ [c]))) else nilN, D.int (if badF (l ++ [c]) = false then 0 else 25)])) := by
  obtain ⟨m, rfl, e⟩ := body (pg := pg) (f := 19) (args := [nD (marksF l) (encM (cloF l)), clD c]) (show 0 < n by omega) rfl rfl
  rw [e]
  obtain ⟨k1, k2, k3⟩ := chk_ok h0
  obtain ⟨k4, k5, k6⟩ := chk_ok h1
  have hc1 := ints_canonL (marksF l)
  have hc2 := rows_canonL (marksF l).length (encM (cloF l))
  have cn := fun h => call_of (h := h) (pg := pg) (f := 21) rfl (by simp [nD, intsD, rowsD, hc1, hc2]) (check_net (clo_nok h0 hb) (n := m) (by omega))
  simp only [nD, intsD, rowsD] at cn
  have o1 : ∀ a b c d (e : Option Nat), D.one (.slr a b c d e) = true := fun _ _ _ _ _ => rfl
  have o3 : ∀ (z : Bool) (l : List D), D.one (.sl z l) = true := fun _ _ => rfl
  have ck0 : ckF c = 0 := by
    have := last_ok h1
    unfold ckF
    rw [this]; rfl
  have cc := fun h => call_of (h := h) (pg := pg) (f := 27) rfl (by simp [clD, clC]) (@ck_run c m (by omega))
  rw [ck0] at cc
  simp only [clD, clC] at cc
  have hz2 : zerosD [.int .i64 0] 1 2 = [D.int 0, D.int 0] := rfl
  obtain ⟨H1, hH1⟩ : ∃ H, H = ((((((((((Heap.empty.bump 101).set 2 (some (.cells 40 [intsD (marksF l), rowsD (marksF l).length (encM (cloF l))]))).set 3 (some (.cells 42 (clC c)))).set 4 (some (.cells 40 nil2))).bump 101).bump 101).bump 101).bump 101).bump 101).set 533 (some (.cells 3 [D.int c.a, D.int c.b]))).set 533 none := ⟨_, rfl⟩
  have hH1f : H1.Fr := by
    rw [hH1]
    repeat' first | exact Heap.Fr.empty | apply Heap.Fr.bump | apply Heap.Fr.set
    all_goals first | omega | (simp <;> omega)
  have hH1n : H1.next = 606 := by rw [hH1]; simp
  have g13 : H1.get 3 = some (.cells 42 (clC c)) := by rw [hH1]; simp
  have g14 : H1.get 4 = some (.cells 40 nil2) := by rw [hH1]; simp
  obtain ⟨x, hx⟩ : ∃ x, x = l ++ [c] := ⟨_, rfl⟩
  have hmx : rsL (marksF l ++ [c.a, c.b]) = marksF x := by rw [hx]; exact rs_marks l c
  obtain ⟨⟨kb, mb, ks, Z⟩, h2, r2, m2, w1, w2, w3, w4, w5, w6, w7, w8, w9⟩ := wid_sh (marks_rise l) k3 (encM (cloF l)) c.a c.b (by rw [hmx, hx]; exact k6) hH1f (n := m) (by omega)
  rw [hmx] at r2 m2 w1
  simp only at r2 m2 w1 w2 w3 w4 w5 w6
  have c59 := call_sh (pg := pg) (f := 59) rfl r2
  rw [hH1n] at w4 w5 w6 w8 w9
  have g23 : h2.get 3 = some (.cells 42 (clC c)) := by unfold Heap.get at g13 ⊢; rw [w9 3 (by omega)]; exact g13
  have g24 : h2.get 4 = some (.cells 40 nil2) := by unfold Heap.get at g14 ⊢; rw [w9 4 (by omega)]; exact g14
  have hf8 : h2.raw 513 = none := by rw [w9 513 (by omega), hH1]; simp
  have hl64 : ¬ (64 : Int) < (marksF x).length := by rw [← hx] at k6; omega
  have hsub : ∀ v, v ∈ marksF l → v ∈ marksF x := by rw [hx]; exact marks_sub fun q hq => List.mem_append_left _ hq
  have m3 : Mat (marksF x).length (encM (gW l x)) mb ks h2 := m2.congr fun a b ha hb' => wA_ext (marks_rise l) (cl_clo h0 hb) ha hb'
  have t3 : GrH (marksF x) Z (encM (gW l x)) c kb mb ks (((h2.set 513 (some (.cells 74 nil2))).set 513 (some (.cells 74 [sS (marksF x) kb, rowS (marksF x).length mb]))).bump 101) := by
    refine GrH.bump ⟨⟨m3.len, by simp [show mb ≠ 513 by omega, m3.top], m3.nd, fun q hq => by simpa using m3.lt q hq, fun j hj => ?_, by simpa using m3.mlt⟩, by simp [show kb ≠ 513 by omega, w1], by simp [g23], by simp [g24], by simp, by simp; omega, ⟨w3, fun hq => by have := w6 _ hq; omega, fun hq => by have := w6 _ hq; omega, fun hq => by have := w6 _ hq; omega⟩, by omega, (w7.set _ (by omega)).set _ (by simp; omega)⟩ 101
    have := w6 _ (List.getElem_mem hj)
    simp [show ks[j] ≠ 513 by omega, m3.row j hj]
  have hyr := ok_years (last_ok h1)
  have hcx : c ∈ x := by rw [hx]; exact List.mem_append_right l List.mem_cons_self
  have hmm := mem_marks hcx
  have fin : ∀ (y : Env 101), y.v 3 = .ptr 3 0 → y.v 4 = .ptr 4 0 → y.v 8 = .ptr 513 0 → endK (rc pg m) [(.cell 4 40, true, 2), (.tmp 5, false, 0)] (k19t.ev ⟨pg, 101, none⟩ (rc pg m) ⟨y.l, ((h2.set 513 (some (.cells 74 nil2))).set 513 (some (.cells 74 [sS (marksF x) kb, rowS (marksF x).length mb]))).bump 101, []⟩) = some (.ret (.tup [if badF x = false then nD (marksF x) (encM (cloF x)) else nilN, D.int (if badF x = false then 0 else 25)])) := by
    intro y v3 v4 v8
    refine grow_t (marks_rise x) (by rw [hx]; exact k6) hmm.1 hmm.2 t3 y v3 v4 v8 (by omega) fun y v3 v4 v8 v9 v10 => ?_
    have t4 := t3.bump 101
    cases hbx : badF x with
    | false =>
      subst hx
      have fts := ok_fits h0 h1 hbx
      have ft := fit_of h0 hb h1 fts
      have gc := grow_clo h0 h1 hbx
      rw [← gc]
      refine (grow_ok k6 ft (fun i j z hz => ?_) (by omega) (by omega) (by rw [gc]; exact clo_nok h1 hbx) ?_ ?_ t4 y v3 v4 v8 v9 v10 (by omega)).trans (by simp)
      · rcases Ext_or hz with ⟨_, rfl⟩ | ⟨_, a, b, _, _, e3⟩
        · omega
        · exact clo_wide h0 hb e3
      · cases e1 : gW l (l ++ [c]) (placeF (marksF (l ++ [c])) c.a) (placeF (marksF (l ++ [c])) c.b) with
        | none => simp [encM, enc, e1]; omega
        | some z => have := fts.2 z e1; rw [enc_some e1]; omega
      · cases e1 : gW l (l ++ [c]) (placeF (marksF (l ++ [c])) c.b) (placeF (marksF (l ++ [c])) c.a) with
        | none => simp [encM, enc, e1]; omega
        | some z => have := fts.1 z e1; rw [enc_some e1]; omega
    | true =>
      have hbad : encM (gW l x) (placeF (marksF x) c.a) (placeF (marksF x) c.b) < c.lo ∨ encM (gW l x) (placeF (marksF x) c.b) (placeF (marksF x) c.a) < -c.hi := by
        apply Decidable.byContradiction
        intro hn
        subst hx
        rw [fits_ok h0 hb h1 ⟨fun z hz => ?_, fun z hz => ?_⟩] at hbx
        · cases hbx
        · have := enc_some hz
          omega
        · have := enc_some hz
          omega
      refine (grow_bad (place_at hmm.1).1 (place_at hmm.2).1 (by omega) hbad t4 y v3 v4 v8 v9 v10 (by omega)).trans (by simp)
  rw [← hx]
  simp only [nD, intsD, rowsD, sS, rowS, nil2, clC] at c59 hH1 fin
  simp only [List.map_cons, List.map_nil] at c59
  simp [k19_eq, Env.v_ini, nD, intsD, rowsD, clD, clC, D.cells, D.one, cn, cc, hz2, chunk, ← hH1, c59, hf8, hl64]
  exact fin _ (by simp) (by simp) (by simp)
end Go.Proofs.YtppfjkebamegnaaDoor
/- A closure that grows by a claim is the closure of all claims: the law, by the evaluator. -/
namespace Go.Proofs.YtppfjkebamegnaaDoor
open Go Go.Em Go.Em.Net
set_option maxRecDepth 100000
def gnF (l : List Clm) : List D := if cerF l = 0 then [intsD (marksF l), rowsD (marksF l).length (encM (cloF l))] else [.sl false [], .sl false []]
theorem gn_agg (l : List Clm) : cloD' l = .tup [.agg (gnF l), D.int (cerF l)] := by
  unfold cloD' gnF; split <;> rfl
set_option maxHeartbeats 16000000 in
theorem grown_law (l : List Clm) (c : Clm) (hl : l.length * 40 ≤ 140737488351232) {n : Nat} (hn : 300000 ≤ n) : pureCall (rc pg n) 6 [clsD l, clD c] = some (.ret (.val (.bool true))) := by
  obtain ⟨m, rfl, e⟩ := body (pg := pg) (f := 6) (args := [clsD l, clD c]) (show 0 < n by omega) rfl rfl
  rw [e]
  have hs := fun h => @sane_call m (by omega) h
  obtain ⟨x, hx⟩ : ∃ x, x = l ++ [c] := ⟨_, rfl⟩
  have hsub : ∀ q, q ∈ l → q ∈ x := fun q hq => by rw [hx]; exact List.mem_append_left _ hq
  have cw := fun h => call_of (h := h) (pg := pg) (f := 24) rfl (by simp [clsD, cl_canon, canonL_map clD cl_canon l]) (@with_c_run l c (by omega) m (by omega))
  rw [← hx] at cw
  have cl0 := fun h => call_of (h := h) (pg := pg) (f := 25) rfl (cls_canon l) (@close_run l m (by omega))
  have clx := fun h => call_of (h := h) (pg := pg) (f := 25) rfl (cls_canon x) (@close_run x m (by omega))
  have crk := fun h => call_of (h := h) (pg := pg) (f := 26) rfl (cls_canon x) (@rchk_run x m (by omega))
  rw [gn_agg] at cl0 clx
  simp only [clsD, clD, clC] at cw cl0 clx crk
  by_cases he : cerF l = 0
  · obtain ⟨h0, hbl⟩ := cer_ok he
    have e1 : gnF l = [intsD (marksF l), rowsD (marksF l).length (encM (cloF l))] := by unfold gnF; rw [if_pos he]
    rw [he, e1] at cl0
    by_cases hc : chkF x = 0
    · rw [hc] at crk
      have hc1 := ints_canonL (marksF l)
      have hc2 := rows_canonL (marksF l).length (encM (cloF l))
      have gr := fun h => call_of (h := h) (pg := pg) (f := 19) rfl (by simp [nD, intsD, rowsD, hc1, hc2, clD, clC]) (grow_run l c h0 hbl (by rw [← hx]; exact hc) (n := m) (by omega))
      rw [← hx] at gr
      have hl64 := (chk_ok hc).2.2
      cases hbx : badF x with
      | false =>
        have ex : cerF x = 0 := cer_of hc hbx
        have e2 : gnF x = [intsD (marksF x), rowsD (marksF x).length (encM (cloF x))] := by unfold gnF; rw [if_pos ex]
        rw [ex, e2] at clx
        rw [hbx] at gr
        simp only [if_true] at gr
        have sn := fun h => call_of (h := h) (pg := pg) (f := 23) rfl (by have := ints_canonL (marksF x); have := rows_canonL (marksF x).length (encM (cloF x)); simp_all [nD, intsD, rowsD]) (@same_net (marksF x) (encM (cloF x)) hl64 m (by omega))
        simp only [nD, intsD, rowsD, clD, clC] at cl0 clx gr sn
        simp [k6, Env.v_ini, clsD, clD, clC, D.cells, D.one, cw, cl0, clx, crk, gr, sn, hs]
      | true =>
        have ex : cerF x = 25 := by unfold cerF; simp [hc, hbx]
        have e2 : gnF x = [.sl false [], .sl false []] := by unfold gnF; rw [if_neg (by omega)]
        rw [ex, e2] at clx
        rw [hbx] at gr
        simp only [if_neg (show ¬ (true = false) by simp)] at gr
        have sn := fun h => call_of (h := h) (pg := pg) (f := 23) rfl (by simp [nilN]) (@same_nil m (by omega))
        simp only [nD, nilN, intsD, rowsD, clD, clC] at cl0 clx gr sn
        simp [k6, Env.v_ini, clsD, clD, clC, D.cells, D.one, cw, cl0, clx, crk, gr, sn, hs]
    · have hc' : (chkF x != 0) = true := by simpa using hc
      simp only [intsD, rowsD] at cl0
      simp [-bne_iff_ne, k6, Env.v_ini, clsD, clD, clC, D.cells, D.one, cw, cl0, crk, hc', hs]
  · have he2 : (cerF l != 0) = true := by simpa using he
    have e1 : gnF l = [.sl false [], .sl false []] := by unfold gnF; rw [if_neg he]
    rw [e1] at cl0
    simp [-bne_iff_ne, k6, Env.v_ini, clsD, clD, clC, D.cells, D.one, cw, cl0, he2, hs]
end Go.Proofs.YtppfjkebamegnaaDoor
