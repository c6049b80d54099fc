/- The chain of the least bound, by the program. -/
import Derived.Test.YtfemldhlanoakaaDoorMo1
import Derived.Test.YtfemldhlanoakaaDoorPl
namespace Go.Proofs.YtfemldhlanoakaaDoor
open Go Go.Em Go.Em.Net
set_option maxRecDepth 100000
/-- A chain that grows. -/
def GS (c : List Mo) (h : Heap) (d : D) : Prop := (c = [] ∧ d = .val (.slice none 0 0)) ∨ c ≠ [] ∧ ∃ k, d = .slr k 0 c.length 2 none ∧ h.get k = some (.cells 61 (c.flatMap fun m => stC (stO m))) ∧ k < h.next
theorem ix_find {P : Mo → Bool} {m : Mo} : ∀ {L : List Mo} {i : Nat}, L.find? P = some m → ∃ j : Nat, ixP P i L = ((i + j : Nat) : Int) ∧ L[j]? = some m
  | [], _, h => by simp at h
  | x :: L, i, h => by
    unfold ixP
    by_cases hx : P x = true
    · rw [if_pos hx]
      rw [List.find?_cons_of_pos hx] at h
      obtain rfl := Option.some.inj h
      exact ⟨0, by simp, rfl⟩
    · rw [if_neg hx]
      rw [List.find?_cons_of_neg hx] at h
      obtain ⟨j, h1, h2⟩ := ix_find (i := i + 1) h
      exact ⟨j + 1, by rw [h1]; congr 1; omega, by simpa using h2⟩
def LcI (M : List Int) (A : Nat → Nat → Int) (L : List Mo) (a b : Nat) (f : Nat → Int) (C : List Mo) (P : Nat → Nat → Prop) (b5 : Nat) (k : Nat) (st : St) : Prop := ∃ (x : Env 36) (h : Heap) (cur : Nat) (c : List Mo) (b7 : Nat), st = ⟨x.l, h, []⟩ ∧ x.v 1 = mosD L ∧ x.v 2 = .ptr 2 0 ∧ x.v 5 = .ptr b5 0 ∧ x.v 7 = .ptr b7 0 ∧ h.get 2 = some (.cells 76 [intsD M, rowsD M.length A, D.int a, D.int b]) ∧ h.get b5 = some (.cells 31 [.sl false (yCs M.length f)]) ∧ h.get b7 = some (.cells 3 [D.int cur]) ∧ b5 < h.next ∧ b7 < h.next ∧ 2 < h.next ∧ GS c h (x.v 6) ∧ cur < M.length ∧ P cur k ∧ C = c ++ chF L (ldI A b) f k cur ∧ c.length + k ≤ 64 ∧ h.Fr
set_option maxHeartbeats 8000000 in
theorem lc_round (M : List Int) (hM : M.length ≤ 64) (A : Nat → Nat → Int) (hA : ∀ a b, -1000000000000 ≤ A a b ∧ A a b ≤ 1000000000000) (L : List Mo) (hLl : L.length ≤ 800) (hL : ∀ m ∈ L, m.fr < M.length ∧ m.to_ < M.length ∧ -100000 ≤ m.mo ∧ m.mo ≤ 100000) (a b : Nat) (hb : b < M.length) (f : Nat → Int) (hf : ∀ v, v < M.length → -1000 ≤ f v ∧ f v ≤ 1000) (C : List Mo) (P : Nat → Nat → Prop) (P0 : ∀ v, P v 0 ↔ v = b ∧ P b 0) (Pb : ∀ k, P b k → k = 0) (Ps : ∀ v k, v < M.length → P v (k + 1) → ∃ m, L.find? (nxt (ldI A b) f v) = some m ∧ P m.to_ k) (b5 : Nat) :
    ∀ n, 1000 ≤ n → ∀ k st, LcI M A L a b f C P b5 k st → Res (k50l0.ev ⟨pg, 36, none⟩ (rc pg n) st) (Rnd (LcI M A L a b f C P b5) (fun x st => x = .exit 0 ∧ LcI M A L a b f C P b5 0 st) k) := by
  rintro n hn k st ⟨x, h, cur, c, b7, rfl, v1, v2, v5, v7, g2, g5, g7, n5, n7, n2, gs, hcur, hP, hC, hk64, hfr'⟩
  have v1' := v1
  simp only [mosD] at v1'
  have g2' := g2
  simp only [intsD, rowsD] at g2'
  by_cases hcb : cur = b
  · subst hcb
    obtain rfl := Pb k hP
    simp [k50l0, v2, v7, g2', g7, D.cells, D.one]
    refine ⟨_, _, cur, c, b7, rfl, by simp [v1], by simp [v2], by simp [v5], by simp [v7], by simp [g2], by simp [g5], by simp [g7], by simp; omega, by simp; omega, by first | (simp; done) | (simp; omega), ?_, hcur, hP, hC, hk64, hfr'.bump _⟩
    rcases gs with ⟨e1, e2⟩ | ⟨e1, k, e2, e3, e4⟩
    · exact .inl ⟨e1, by simp [e2]⟩
    · exact .inr ⟨e1, k, by simp [e2], by simp [e3], by simp; omega⟩
  · cases k with
    | zero => exact absurd ((P0 cur).1 hP).1 hcb
    | succ k =>
      obtain ⟨m, hm, hPm⟩ := Ps cur k hcur hP
      have hcb' : ((cur : Int) != (b : Int)) = true := by simp; omega
      have hfr : ∀ j, h.raw (h.next + j) = none := fun j => hfr' _ (by omega)
      have hmL : m ∈ L := List.mem_of_find?_eq_some hm
      obtain ⟨m1, m2, m3, m4⟩ := hL m hmL
      obtain ⟨j, hj1, hj2⟩ := ix_find (i := 0) hm
      rw [Nat.zero_add] at hj1
      have hjL : j < L.length := (List.getElem?_eq_some_iff.1 hj2).1
      have hjm : L[j] = m := Option.some.inj (by rw [← List.getElem?_eq_getElem hjL, hj2])
      have hCn : C = (c ++ [m]) ++ chF L (ldI A b) f k m.to_ := by
        rw [hC]
        have : chF L (ldI A b) f (k + 1) cur = m :: chF L (ldI A b) f k m.to_ := by rw [chF, hm]
        rw [this]; simp
      have nb2 : ∀ t, (2 = h.next + t) = False := fun t => by simp; omega
      have nb5 : ∀ t, (b5 = h.next + t) = False := fun t => by simp; omega
      have nb7 : ∀ t, (b7 = h.next + t) = False := fun t => by simp; omega
      have nb7' : ∀ t, (h.next + t = b7) = False := fun t => by simp; omega
      have n27 : (2 = b7) = False := by
        simp; intro e; rw [← e, g2] at g7; cases g7
      have n57 : (b5 = b7) = False := by
        simp; intro e; rw [e, g7] at g5; cases g5
      have hc1 := ints_canonL M
      have hc2 := rows_canonL M.length A
      have hc3 := yCs_canon M.length f
      have hcL := mo_canonL L
      have s108 : pg.sh 91 = false := rfl
      have r108 := ixm_run M A hA a b hb f hf cur hcur L hLl hL (n := n) (by omega)
      rw [hj1] at r108
      have c108 : ∀ H : Heap, H.get 2 = h.get 2 → H.get b5 = h.get b5 → H.get b7 = h.get b7 → call pg (rc pg n) 91 [mosD L, .fn (.func 92) [] [.ptr b7 0, .ptr b5 0, .ptr 2 0]] H = some (.ret (D.int j), H) := by
        intro H e1 e2 e3
        refine callfz (ks := [b7, b5, 2]) (bs := [mosD L, fnC M A a b f cur]) s108 ?_ r108 rfl
        rw [g2] at e1
        rw [g5] at e2
        rw [g7] at e3
        have x1 := fun n => each_canon H n _ hc1
        have x2 := fun n => each_canon H n _ hc2
        have x3 := fun n => each_canon H n _ hc3
        have x4 := fun n => each_canon H n _ hcL
        simp [mosD, fnC, capD, intsD, rowsD, e1, e2, e3, x1, x2, x3, x4]
      simp only [mosD] at c108
      rcases gs with ⟨rfl, g6⟩ | ⟨hc0, k6, g6, gg6, n6⟩
      · simp [-bne_iff_ne, k50l0, v1', v2, v5, v7, g6, g2', g5, g7, hcb', c108, hjL, hjm, moD, moC, D.cells, D.one, hfr, Nat.add_assoc, zerosD, apK_some, List.range_succ, nb2, nb5, nb7, nb7', n27, n57, room, maxLen]
        refine ⟨_, _, m.to_, [m], h.next + 187, rfl, by simp [v1, mosD], by simp [v2], by simp [v5], by simp, ?_, ?_, by simp, by simp; omega, by simp, by first | (simp; done) | (simp; omega), .inr ⟨by simp, h.next + 100, by simp, ?_, by simp⟩, m2, hPm, by simpa using hCn, ?_, ?_⟩
        · simp [g2, nb2, n27, intsD, rowsD]
        · simp [g5, nb5, n57]
        · simp [nb7', stC, stO]
        · simp; simp at hk64; omega
        · repeat' first | exact hfr' | apply Heap.Fr.bump | apply Heap.Fr.set
          all_goals first | omega | (simp <;> omega)
      · have ln : c.length ≠ 0 := fun e => hc0 (List.eq_nil_of_length_eq_zero e)
        have hcl : (c.flatMap fun m => stC (stO m)).length = c.length * 2 := length_flatMap (fun m => stC (stO m)) (fun _ => rfl) c
        have happ := fun t hh news => appS_none (t := t) (et := 61) (sz := 2) (bytes := 16) (h := hh) (m := 1) (news := news) (k := k6) (n := c.length) (cs := c.flatMap fun m => stC (stO m)) hcl (by omega) (by unfold room; omega) (by unfold maxLen; omega)
        have nk6 : ∀ t, (k6 = h.next + t) = False := fun t => by simp; omega
        have nk6' : ∀ t, (h.next + t = k6) = False := fun t => by simp; omega
        have n26 : (2 = k6) = False := by
          simp; intro e; rw [← e, g2] at gg6; cases gg6
        have n56 : (b5 = k6) = False := by
          simp; intro e; rw [← e, g5] at gg6; cases gg6
        have n76 : (b7 = k6) = False := by
          simp; intro e; rw [← e, g7] at gg6; cases gg6
        have n67 : (k6 = b7) = False := by
          simp; intro e; rw [e, g7] at gg6; cases gg6
        simp [-bne_iff_ne, k50l0, v1', v2, v5, v7, g6, g2', g5, g7, hcb', c108, hjL, hjm, moD, moC, D.cells, D.one, hfr, Nat.add_assoc, zerosD, apK_some, List.range_succ, nb2, nb5, nb7, nb7', n27, n57, gg6, happ, nk6, nk6', n26, n56, n76, n67]
        refine ⟨_, _, m.to_, c ++ [m], h.next + 187, rfl, by simp [v1, mosD], by simp [v2], by simp [v5], by simp, ?_, ?_, by simp, by simp; omega, by simp, by first | (simp; done) | (simp; omega), .inr ⟨by simp, h.next + 100, by simp, ?_, by simp⟩, m2, hPm, by simpa using hCn, ?_, ?_⟩
        · simp [g2, nb2, n27, n26, intsD, rowsD]
        · simp [g5, nb5, n57, n56]
        · simp [nb7', stC, stO, nk6']
        · simp; omega
        · repeat' first | exact hfr' | apply Heap.Fr.bump | apply Heap.Fr.set
          all_goals first | omega | (simp <;> omega)
end Go.Proofs.YtfemldhlanoakaaDoor
/- The chain of the least bound, by the program: the function. -/
namespace Go.Proofs.YtfemldhlanoakaaDoor
open Go Go.Em Go.Em.Net
set_option maxRecDepth 100000
def PN (N : Mx) (L : List Mo) (b : Nat) (f : Nat → Int) (v k : Nat) : Prop := Least N (mvs L) b v k ∧ f v = k ∧ ∀ w i, Least N (mvs L) b w i → i < k → f w = i
theorem nx_ok {N : Mx} {L : List Mo} {b : Nat} {ld : Mv → Bool} {f : Nat → Int} (hbb : N b b = some 0) (hld : ∀ m ∈ mvs L, N m.2.1 b ≠ none → (ld m = true ↔ Tight N b m)) (hval : ∀ v, f v ≠ -1 → ∃ k : Nat, f v = k ∧ Least N (mvs L) b v k) {v k : Nat} (h : PN N L b f v (k + 1)) : ∃ m, L.find? (nxt ld f v) = some m ∧ PN N L b f m.to_ k := by
  obtain ⟨hl, hfa, hn⟩ := h
  obtain ⟨t, ht, hta, htt, htl⟩ := hl.move
  obtain ⟨m0, hm0, e0⟩ := List.mem_map.1 ht
  have hnx : nxt ld f v m0 = true := by
    have e1 : m0.fr = v := by rw [← hta, ← e0]
    have e2 : f m0.to_ = k := by
      have := hn t.2.1 k htl (by omega)
      rw [← e0] at this
      exact this
    have e3 : ld (mvO m0) = true := by
      have hs : mvO m0 = t := e0
      rw [hs]
      obtain ⟨_, q, _, hq, _⟩ := htt
      exact (hld t ht (by rw [hq]; simp)).2 ⟨_, q, ‹_›, hq, ‹_›⟩
    unfold nxt
    rw [e1, e2, hfa, e3]
    simp
  obtain ⟨m, hm⟩ : ∃ m, L.find? (nxt ld f v) = some m := by
    cases h : L.find? (nxt ld f v) with
    | some m => exact ⟨m, rfl⟩
    | none => exact absurd hnx (by simpa using List.find?_eq_none.1 h m0 hm0)
  have hmL := List.mem_of_find?_eq_some hm
  have hmn := List.find?_some hm
  unfold nxt at hmn
  simp only [Bool.and_eq_true, beq_iff_eq] at hmn
  obtain ⟨⟨c1, c2⟩, c3⟩ := hmn
  have c2' : f m.to_ = k := by rw [c2, hfa]; omega
  obtain ⟨j, hj1, hj2⟩ := hval m.to_ (by omega)
  have hjk : j = k := by omega
  subst hjk
  exact ⟨m, hm, hj2, c2', fun w i h1 h2 => hn w i h1 (by omega)⟩
set_option maxHeartbeats 8000000 in
theorem chain_run (M : List Int) (hM : M.length ≤ 64) (A : Nat → Nat → Int) (hA : ∀ a b, -1000000000000 ≤ A a b ∧ A a b ≤ 1000000000000) (L : List Mo) (hLl : L.length ≤ 800) (hL : ∀ m ∈ L, m.fr < M.length ∧ m.to_ < M.length ∧ -100000 ≤ m.mo ∧ m.mo ≤ 100000) (a b : Nat) (ha : a < M.length) (hb : b < M.length) {N : Mx} (hbb : N b b = some 0) (hld : ∀ m ∈ mvs L, N m.2.1 b ≠ none → (ldI A b m = true ↔ Tight N b m)) (hval : ∀ v, bfsN (ldI A b) a b (L.map mvO) M.length v ≠ -1 → ∃ k : Nat, bfsN (ldI A b) a b (L.map mvO) M.length v = k ∧ Least N (mvs L) b v k) {j : Nat} (hj : j < M.length) (hP : PN N L b (bfsN (ldI A b) a b (L.map mvO) M.length) a j) {n : Nat} (hn : 3000 ≤ n) :
    pureCall (rc pg n) 50 [bwD M A a b, mosD L] = some (.ret (stsD ((chF L (ldI A b) (bfsN (ldI A b) a b (L.map mvO) M.length) j a).map stO))) := by
  obtain ⟨m, rfl, e⟩ := body (pg := pg) (f := 50) (args := [bwD M A a b, mosD L]) (show 0 < n by omega) rfl rfl
  rw [e]
  obtain ⟨f, hfd⟩ : ∃ f, f = bfsN (ldI A b) a b (L.map mvO) M.length := ⟨_, rfl⟩
  have hc1 := ints_canonL M
  have hc2 := rows_canonL M.length A
  have hcL := mo_canonL L
  have c107 := fun h => call_of (h := h) (pg := pg) (f := 90) rfl (by simp [bwD, mosD, intsD, rowsD, hc1, hc2, hcL]) (left_run M hM A hA L hLl hL a b ha hb (n := m) (by omega))
  rw [← hfd] at c107 hval hP ⊢
  have hfb : ∀ v, v < M.length → -1000 ≤ f v ∧ f v ≤ 1000 := fun v hv => by
    by_cases hv1 : f v = -1
    · omega
    · obtain ⟨k, hk1, hk2⟩ := hval v hv1
      have := least_lt (n := M.length) (fun x hx => by
        obtain ⟨y, hy, rfl⟩ := List.mem_map.1 hx
        exact (hL y hy).1) hb hk2
      omega
  simp only [bwD, mosD, intsD, rowsD] at c107
  simp [k50, Env.v_ini, bwD, mosD, intsD, rowsD, D.cells, D.one, c107, ev_loop]
  have P0 : ∀ v, PN N L b f v 0 ↔ v = b ∧ PN N L b f b 0 := fun v => by
    constructor
    · intro q
      obtain rfl : v = b := q.1.of_zero
      exact ⟨rfl, q⟩
    · rintro ⟨rfl, q⟩; exact q
  have Pb : ∀ k, PN N L b f b k → k = 0 := fun k q => q.1.uniq Least.zero
  refine Res.endsAfter (lp_rule 1000 (LcI M A L a b f (chF L (ldI A b) f j a) (PN N L b f) 41) _ (lc_round M hM A hA L hLl hL a b hb f hfb (chF L (ldI A b) f j a) (PN N L b f) P0 Pb (fun v k _ q => nx_ok hbb hld hval q) 41) j m _ (by omega) ⟨_, _, a, [], 115, rfl, by simp [Env.v_ini, mosD], by simp, by simp, by simp, by simp [intsD, rowsD], by simp, by simp, by simp, by simp, by simp, .inl ⟨rfl, by simp⟩, ha, hP, by simp, by simp; omega, ?_⟩) ?_
  · repeat' first | exact Heap.Fr.empty | apply Heap.Fr.bump | apply Heap.Fr.set
    all_goals first | omega | (simp <;> omega)
  · rintro x s ⟨rfl, x, h, cur, c, b7, rfl, v1, v2, v5, v7, g2, g5, g7, n5, n7, n2, gs, hcur, hP0, hC, hk, hfr⟩
    have hC' : chF L (ldI A b) f j a = c := by rw [hC]; simp [chF]
    rw [hC']
    rcases gs with ⟨rfl, g6⟩ | ⟨hc0, k6, g6, gg6, n6⟩
    · simp [g6]
      rfl
    · have hcf : D.canonL (c.flatMap fun m => stC (stO m)) = true := canonL_flatMap (fun m => stC (stO m)) (fun m => by simp [stC]) c
      have hl2 : (c.flatMap fun m => stC (stO m)).length = c.length * 2 := length_flatMap (fun m => stC (stO m)) (fun _ => rfl) c
      have hea := each_canon (h.bump 36) 22 _ hcf
      have ht : (c.flatMap fun m => stC (stO m)).take (c.length * 2) = c.flatMap fun m => stC (stO m) := List.take_of_length_le (by omega)
      have hch := chunk_flatMap (sz := 2) (fun m => stC (stO m)) (by decide) (fun _ => rfl) c c.length rfl
      simp only [Nat.reduceAdd] at hea
      simp [-List.length_flatMap, g6, gg6, ht, hea, hl2, hch, stsD, stD]
end Go.Proofs.YtfemldhlanoakaaDoor
/- The greatest number of years, with its chain: by the program. -/
namespace Go.Proofs.YtfemldhlanoakaaDoor
open Go Go.Em Go.Em.Net
set_option maxRecDepth 100000
def moVs (l : List Clm) : List Mo := movsF (marksF l) 0 l
def fX (l : List Clm) (pa pb : Nat) : Nat → Int := bfsN (ldI (encM (cloF l)) pb) pa pb ((moVs l).map mvO) (marksF l).length
def chnF (l : List Clm) (pa pb : Nat) : List Mo := chF (moVs l) (ldI (encM (cloF l)) pb) (fX l pa pb) (fX l pa pb pa).toNat pa
theorem ld_tight {l : List Clm} (h0 : chkF l = 0) (hb : badF l = false) {b : Nat} : ∀ m ∈ mvs (moVs l), cloF l m.2.1 b ≠ none → (ldI (encM (cloF l)) b m = true ↔ Tight (cloF l) b m) := by
  intro m hm hq
  obtain ⟨m0, hm0, rfl⟩ := List.mem_map.1 hm
  have hbt := clo_bt h0 hb
  have hbd := (good_movs h0).bd m0 hm0
  obtain ⟨q, hq'⟩ := Option.ne_none_iff_exists'.1 hq
  have b1 := hbt _ _ _ hq'
  simp only at hq' b1 ⊢
  unfold ldI Tight encM
  simp only [hq', beq_iff_eq]
  cases e : cloF l m0.fr b with
  | none => simp [enc]; omega
  | some p => simp [enc]
theorem most_facts {l : List Clm} (h0 : chkF l = 0) (hb : badF l = false) {pa pb : Nat} (hpa : pa < (marksF l).length) (hpb : pb < (marksF l).length) {z : Int} (hz : cloF l pa pb = some z) :
    ∃ j : Nat, j < (marksF l).length ∧ fX l pa pb pa = j ∧ PN (cloF l) (moVs l) pb (fX l pa pb) pa j ∧ ∀ v, fX l pa pb v ≠ -1 → ∃ k : Nat, fX l pa pb v = k ∧ Least (cloF l) (mvs (moVs l)) pb v k := by
  have c := clo_clsd h0 hb
  have kn := kn_EF (good_movs h0).hin
  have hd := (bad_iff h0).1 hb
  have hm : ∀ m ∈ mvs (moVs l), m.1 < (marksF l).length := fun m hm => by
    obtain ⟨m0, hm0, rfl⟩ := List.mem_map.1 hm
    exact ((good_movs h0).hin m0 hm0).1
  have hbb : cloF l pb pb ≠ none := by rw [c.diag pb hpb]; simp
  obtain ⟨k, hk⟩ := lw_ex (E := netF l) (mv := mvs (moVs l)) kn.out (fun q hq => hd q (by omega) q hq) (fun q hq => hd _ (Nat.le_refl _) q hq) c kn.he hpb hpa hz
  obtain ⟨j, j1, j2, j3, j4⟩ := bfs_done (ld_tight h0 hb) hbb hm hpb hk
  exact ⟨j, j1, j3, ⟨j2, j3, j4⟩, (bfsN_inv (a := pa) (ld_tight h0 hb) hbb (marksF l).length).val⟩
theorem chn_ok {l : List Clm} (h0 : chkF l = 0) (hb : badF l = false) {pa pb : Nat} (hpa : pa < (marksF l).length) (hpb : pb < (marksF l).length) {z : Int} (hz : cloF l pa pb = some z) :
    (chnF l pa pb).length < (marksF l).length ∧ (∀ m ∈ chnF l pa pb, m ∈ moVs l) ∧ Pa pa (chnF l pa pb) pb ∧ smF (chnF l pa pb) = z := by
  obtain ⟨j, j1, j2, ⟨j3, j4, j5⟩, j6⟩ := most_facts h0 hb hpa hpb hz
  have := ch_ok ((clo_clsd h0 hb).diag pb hpb) (ld_tight h0 hb) j6 j pa z j3 j2 j5 hz
  have e : (fX l pa pb pa).toNat = j := by omega
  unfold chnF
  rw [e]
  exact ⟨by omega, this.2⟩
theorem chn_run {l : List Clm} (h0 : chkF l = 0) (hb : badF l = false) {pa pb : Nat} (hpa : pa < (marksF l).length) (hpb : pb < (marksF l).length) {z : Int} (hz : cloF l pa pb = some z) {n : Nat} (hn : 3000 ≤ n) :
    pureCall (rc pg n) 50 [bwD (marksF l) (encM (cloF l)) pa pb, mosD (moVs l)] = some (.ret (stsD ((chnF l pa pb).map stO))) := by
  obtain ⟨j, j1, j2, j3, j6⟩ := most_facts h0 hb hpa hpb hz
  have g := good_movs h0
  have := chain_run (marksF l) (chk_ok h0).2.2 (encM (cloF l)) (enc_bd (clo_bt h0 hb)) (moVs l) (by have := (chk_ok h0).1; unfold moVs; rw [movs_len]; omega) (fun m hm => ⟨(g.hin m hm).1, (g.hin m hm).2.1, g.bd m hm⟩) pa pb hpa hpb ((clo_clsd h0 hb).diag pb hpb) (ld_tight h0 hb) j6 j1 j3 hn
  have e : (fX l pa pb pa).toNat = j := by omega
  unfold chnF
  rw [e]
  exact this
def mosF (l : List Clm) (a b : Int) : D :=
  if errF l a b ≠ 0 then .tup [D.int 0, .sl false [], D.int (errF l a b)]
  else if cloF l (placeF (marksF l) a) (placeF (marksF l) b) = none then .tup [D.int 0, .sl false [], D.int 5]
  else .tup [D.int (encM (cloF l) (placeF (marksF l) a) (placeF (marksF l) b)), stsD ((chnF l (placeF (marksF l) a) (placeF (marksF l) b)).map stO), D.int 0]
set_option maxHeartbeats 8000000 in
theorem most_run (l : List Clm) (a b : Int) {f : Nat} (hf : 3100 ≤ f) : pureCall (rc pg f) 12 [clsD l, D.int a, D.int b] = some (.ret (mosF l a b)) := by
  obtain ⟨m, rfl, e⟩ := body (pg := pg) (f := 12) (args := [clsD l, D.int a, D.int b]) (show 0 < f by omega) rfl rfl
  rw [e]
  have hcan : D.canonL [clsD l, D.int a, D.int b] = true := by simp [clsD, canonL_map clD cl_canon l]
  have c43 := fun h => call_of (h := h) (pg := pg) (f := 48) rfl hcan (@bet_run l a b m (by omega))
  simp only [clsD] at c43
  by_cases hE : errF l a b = 0
  · obtain ⟨h0, hb, pa, pb, h1, h2, h3, h4, e0⟩ := bet_ok hE
    rw [e0] at c43
    have hbt := clo_bt h0 hb
    have hc1 := ints_canonL (marksF l)
    have hc2 := rows_canonL (marksF l).length (encM (cloF l))
    have c75 := fun h => call_of (h := h) (pg := pg) (f := 49) rfl (by simp [nD, intsD, rowsD, hc1, hc2]) (far_run (marksF l) (encM (cloF l)) h1 h2 (n := m) (by omega))
    simp only [nD, intsD, rowsD] at c43 c75
    cases hz : cloF l pa pb with
    | none =>
      have ed : mosF l a b = .tup [D.int 0, .sl false [], D.int 5] := by unfold mosF; rw [if_neg (by omega), ← h3, ← h4, if_pos hz]
      have e9 : encM (cloF l) pa pb = 1000000000 := (enc_far hbt).2 hz
      simp only [e9] at c75
      simp [k12, Env.v_ini, clsD, D.cells, D.one, c43, c75, ed]
    | some z =>
      have ed : mosF l a b = .tup [D.int (encM (cloF l) pa pb), stsD ((chnF l pa pb).map stO), D.int 0] := by unfold mosF; rw [if_neg (by omega), ← h3, ← h4, if_neg (by rw [hz]; simp)]
      have e9 : (encM (cloF l) pa pb == 1000000000) = false := by
        have : encM (cloF l) pa pb ≠ 1000000000 := fun q => by
          have := (enc_far (a := pa) (b := pb) hbt).1 q
          rw [hz] at this; cases this
        simpa using this
      rw [e9] at c75
      have c65 := @graph_run l h0 m (by omega)
      have c80 := chn_run h0 hb h1 h2 hz (n := m) (by omega)
      have y2 := yCs_len (marksF l).length (encM (cloF l) pa)
      have g2 : ∀ h' : pb < (yCs (marksF l).length (encM (cloF l) pa)).length, (yCs (marksF l).length (encM (cloF l) pa))[pb]'h' = D.int (encM (cloF l) pa pb) := fun h' => yCs_at h2 h'
      have hcl := canonL_map clD cl_canon l
      have hcm := mo_canonL (moVs l)
      have hcs := sts_canon ((chnF l pa pb).map stO)
      rw [ed]
      simp only [clsD, eachD, grD, intsD, mosD, bwD, rowsD, moVs] at c65 c80 hcm
      have s65 : pg.sh 51 = false := rfl
      have s80 : pg.sh 50 = false := rfl
      have hfs : ∀ (h : Heap) (n : Nat), frz h (n + 1) (stsD ((chnF l pa pb).map stO)) = some (stsD ((chnF l pa pb).map stO), []) := fun h n => by
        have : (stsD ((chnF l pa pb).map stO)).canon = true := by simp [-List.map_map, stsD, hcs]
        unfold frz; rw [if_pos this]
      have hat : ∀ (x : Env 45) (base : Nat), x.v 0 = .sl false (l.map clD) → hids base x.l [.at 0] = [] := fun x base hx => by
        rw [hids_at_none _ _ _ (by rw [Env.getD_env, hx]; rfl), hids_nil]
      simp [k12, Env.v_ini, clsD, D.cells, D.one, c43, c75, h1, h2, y2, g2, hat, hfs, dcore_f, s65, s80, c65, c80, hcl, hcm, hc1, hc2]
  · have e0 := bet_err hE
    have ed : mosF l a b = .tup [D.int 0, .sl false [], D.int (errF l a b)] := by unfold mosF; rw [if_pos hE]
    have q : (errF l a b != 0) = true := by simpa using hE
    rw [e0] at c43
    simp only [bet0] at c43
    simp [-bne_iff_ne, k12, Env.v_ini, clsD, D.cells, D.one, c43, ed, q]
end Go.Proofs.YtfemldhlanoakaaDoor
