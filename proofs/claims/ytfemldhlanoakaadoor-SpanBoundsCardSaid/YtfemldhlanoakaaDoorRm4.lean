/- The document's search: all rounds. -/
import Derived.Test.YtfemldhlanoakaaDoorRb
import Derived.Test.YtfemldhlanoakaaDoorRb
import Derived.Test.YtfemldhlanoakaaDoorBnd
namespace Go.Proofs.YtfemldhlanoakaaDoor
open Go Go.Em Go.Em.Net
set_option maxRecDepth 100000
def bN (l : List Clm) (A : Nat → Nat → Int) (pb r : Nat) : Nat → Int := bfsN (tdI A pb) (marksF l).length pb ((moVs l).map mvO) r
theorem bN_fb {l : List Clm} (h0 : chkF l = 0) (A : Nat → Nat → Int) {pb : Nat} (hpb : pb < (marksF l).length) : ∀ r, r ≤ 64 → Fb (marksF l).length (bN l A pb r)
  | 0, _ => by
    refine ⟨?_, fun v hv => ?_⟩
    · show (if (marksF l).length = pb then (0 : Int) else -1) = -1
      rw [if_neg (by omega)]
    · show -1 ≤ (if v = pb then (0 : Int) else -1) ∧ (if v = pb then (0 : Int) else -1) ≤ 1000
      split <;> omega
  | r + 1, hr => by
    have ih := bN_fb h0 A hpb r (by omega)
    have key : ∀ (L : List Mv), (∀ m ∈ L, m.1 < (marksF l).length) → ∀ f, Fb (marksF l).length f → Fb (marksF l).length (L.foldl (bfs1 (tdI A pb) (marksF l).length r) f) := by
      intro L
      induction L with
      | nil => intro _ f hf; exact hf
      | cons m L ih2 =>
        intro hL f hf
        exact ih2 (fun x hx => hL x (List.mem_cons_of_mem _ hx)) _ (hf.step (by omega) (hL m List.mem_cons_self))
    refine key _ (fun m hm => ?_) _ ih
    obtain ⟨mo, hmo, rfl⟩ := List.mem_map.1 hm
    exact (mov_bd h0 hmo).1
def M2 (l : List Clm) (A : Nat → Nat → Int) (fb b9 pb : Nat) (a b z : Int) (k : Nat) (s : St) : Prop := ∃ (x : Env 158) (h : Heap) (r : Nat), s = ⟨x.l, h, []⟩ ∧ r + k = (marksF l).length ∧ KM l A fb b9 pb a b z x h ∧ x.v 15 = D.int r ∧ h.get fb = some (.cells 3 (yCs (marksF l).length (bN l A pb r)))
set_option maxHeartbeats 8000000 in
theorem m2_round {l : List Clm} (h0 : chkF l = 0) (A : Nat → Nat → Int) (hA : ∀ a b, -1000000000000 ≤ A a b ∧ A a b ≤ 1000000000000) (fb b9 pb : Nat) (hpb : pb < (marksF l).length) (a b z : Int) : ∀ f, 2000 ≤ f → ∀ k s, M2 l A fb b9 pb a b z k s → Res (k17l2.ev ⟨pg, 158, none⟩ (rc pg f) s) (Rnd (M2 l A fb b9 pb a b z) (fun x s => x = .exit 2 ∧ M2 l A fb b9 pb a b z 0 s) k) := by
  rintro f hf k s ⟨x, h, r, rfl, hrk, K, v15, gf⟩
  have v0 := K.v0
  have v13 := K.v13
  obtain ⟨hl1, hok, hl3⟩ := chk_ok h0
  have hL : (moVs l).length = 2 * l.length := by unfold moVs; rw [movs_len]
  by_cases hr : r < (marksF l).length
  · have c57 := fun h => call_of (h := h) (pg := pg) (f := 57) rfl (cls_canon l) (steps_run l hl1 (f := f) (by omega))
    rw [← movs_st (marksF l) l] at c57
    have hs2 : (List.map stD (List.map stO (movsF (marksF l) 0 l))).length = (moVs l).length := by unfold moVs; simp
    have v0' := v0
    simp only [clsD, stsD] at v0' c57
    simp [-List.map_map, k17l2, v15, v13, v0', hr, c57, ev_loop]
    refine Res.in4 (lp_rule 101 (M1 l A fb b9 pb a b z r (bN l A pb r)) _ (m1_round h0 A hA fb b9 pb hpb a b z r (by omega) (bN l A pb r)) (moVs l).length f _ (by omega) ⟨_, _, 0, rfl, by omega, ⟨by simp [K.v0], by simp [K.v1], by simp [K.v2], by simp [K.v9], by simp [K.v11], by simp [K.v12], by simp [K.v13], by simp [K.g9], by have := K.n9; simp; omega, by have := K.nf; simp; omega, ?_⟩, by simp [v15], by simp [stsD, moVs], by simp [moVs], by simp, ?_, ?_⟩) ?_
    · repeat' first | exact K.fr | apply Heap.Fr.bump
    · simpa [FD] using gf
    · have : FD l A pb r (bN l A pb r) 0 = bN l A pb r := by simp [FD]
      rw [this]; exact bN_fb h0 A hpb r (by omega)
    · rintro xo so ⟨rfl, x', h', i, rfl, hi, K', w15, w76, w77, w78, gf', hb'⟩
      have hil : i = (moVs l).length := by omega
      subst hil
      have w1 : IntKind.i64.wrap ((r : Int) + 1) = (r : Int) + 1 := wrap_i64 (by omega) (by omega)
      have hnew : FD l A pb r (bN l A pb r) (moVs l).length = bN l A pb (r + 1) := by
        unfold FD
        rw [List.take_length]; rfl
      rw [hnew] at gf'
      simp [w15, w1]
      refine ⟨k - 1, by omega, _, _, r + 1, rfl, by omega, ⟨by simp [K'.v0], by simp [K'.v1], by simp [K'.v2], by simp [K'.v9], by simp [K'.v11], by simp [K'.v12], by simp [K'.v13], by simp [K'.g9], by have := K'.n9; simp; omega, by have := K'.nf; simp; omega, K'.fr.bump _⟩, by simp, by simp [gf']⟩
  · simp [k17l2, v15, v13, hr]
    exact ⟨_, _, r, rfl, by omega, ⟨by simp [K.v0], by simp [K.v1], by simp [K.v2], by simp [K.v9], by simp [K.v11], by simp [K.v12], by simp [K.v13], by simp [K.g9], by have := K.n9; simp; omega, by have := K.nf; simp; omega, K.fr.bump _⟩, by simp [v15], by simp [gf]⟩
end Go.Proofs.YtfemldhlanoakaaDoor
/- The document's search: the chain. -/
namespace Go.Proofs.YtfemldhlanoakaaDoor
open Go Go.Em Go.Em.Net
set_option maxRecDepth 100000
theorem GS.keep {c : List Mo} {h h' : Heap} {d : D} (g : GS c h d) (hn : h.next ≤ h'.next) (hk : ∀ q, q < h.next → h'.get q = h.get q) : GS c h' d := by
  rcases g with e | ⟨e, k, e1, e2, e3⟩
  · exact .inl e
  · exact .inr ⟨e, k, e1, by rw [hk k e3, e2], by omega⟩
def M3 (l : List Clm) (A : Nat → Nat → Int) (F : Nat → Int) (fb b9 pb : Nat) (a b z : Int) (cur jt : Nat) (c : List Mo) (k : Nat) (s : St) : Prop := ∃ (x : Env 158) (h : Heap) (i : Nat), s = ⟨x.l, h, []⟩ ∧ i + k = jt ∧ KM l A fb b9 pb a b z x h ∧ x.v 21 = D.int cur ∧ x.v 121 = stsD ((moVs l).map stO) ∧ x.v 122 = D.int (moVs l).length ∧ x.v 123 = D.int i ∧
  h.get fb = some (.cells 3 (yCs (marksF l).length F)) ∧ GS c h (x.v 20)
def Q3 (l : List Clm) (A : Nat → Nat → Int) (F : Nat → Int) (fb b9 pb : Nat) (a b z : Int) (to_ : Nat) (c : List Mo) (x : Ex) (s : St) : Prop := x = .exit 8 ∧ ∃ (x : Env 158) (h : Heap), s = ⟨x.l, h, []⟩ ∧ KM l A fb b9 pb a b z x h ∧ x.v 21 = D.int to_ ∧ h.get fb = some (.cells 3 (yCs (marksF l).length F)) ∧ GS c h (x.v 20)
set_option maxHeartbeats 16000000 in
theorem m3_round {l : List Clm} (h0 : chkF l = 0) (A : Nat → Nat → Int) (hA : ∀ a b, -1000000000000 ≤ A a b ∧ A a b ≤ 1000000000000) (F : Nat → Int) (hF : Fb (marksF l).length F) (fb b9 pb : Nat) (hpb : pb < (marksF l).length) (a b z : Int) (cur jt : Nat) (c : List Mo) (hcl : c.length ≤ 64) (mt : Mo) (hjt : (moVs l)[jt]? = some mt) (hnt : nxt (tdI A pb) F cur mt = true) (hno : ∀ i m, i < jt → (moVs l)[i]? = some m → nxt (tdI A pb) F cur m = false) :
    ∀ f, 101 ≤ f → ∀ k s, M3 l A F fb b9 pb a b z cur jt c k s → Res (k17l3.ev ⟨pg, 158, none⟩ (rc pg f) s) (Rnd (M3 l A F fb b9 pb a b z cur jt c) (Q3 l A F fb b9 pb a b z mt.to_ (c ++ [mt])) k) := by
  rintro f hf k s ⟨x, h, i, rfl, hik, K, v21, v121, v122, v123, gf, gs⟩
  have v0 := K.v0
  have v9 := K.v9
  have v11 := K.v11
  have v13 := K.v13
  have g9 := K.g9
  have n9 := K.n9
  have nf := K.nf
  have hfr' := K.fr
  have hL : (moVs l).length ≤ 800 := by unfold moVs; rw [movs_len]; have := (chk_ok h0).1; omega
  have hjl : jt < (moVs l).length := (List.getElem?_eq_some_iff.1 hjt).1
  have hi : i < (moVs l).length := by omega
  have w1 : IntKind.i64.wrap ((i : Int) + 1) = (i : Int) + 1 := wrap_i64 (by omega) (by omega)
  have hfr : ∀ j, h.raw (h.next + j) = none := fun j => hfr' _ (by omega)
  obtain ⟨m, hmi⟩ : ∃ m, (moVs l)[i] = m := ⟨_, rfl⟩
  have hmo : (moVs l)[i]? = some m := by rw [List.getElem?_eq_getElem hi, hmi]
  have hm : m ∈ moVs l := List.mem_of_getElem? hmo
  obtain ⟨b1, b2, b3, b4⟩ := mov_bd h0 hm
  have hc1 := ints_canonL (marksF l)
  have hc2 := rows_canonL (marksF l).length A
  have c58 := fun h => call_of (h := h) (pg := pg) (f := 58) rfl (by simp [nD, intsD, rowsD, hc1, hc2, clsD, canonL_map clD cl_canon l, st_canon]) (tight_run h0 A hA hpb hm (n := f) (by omega))
  simp only [nD, intsD, rowsD, clsD, stD, stC] at c58
  simp only [intsD, rowsD] at g9
  simp only [clsD] at v0
  simp only [stsD] at v121
  have hyl := yCs_len (marksF l).length F
  have y1 : ∀ h' : m.fr < (yCs (marksF l).length F).length, (yCs (marksF l).length F)[m.fr]'h' = D.int (F m.fr) := fun h' => yCs_at b1 h'
  have y2 : ∀ h' : m.to_ < (yCs (marksF l).length F).length, (yCs (marksF l).length F)[m.to_]'h' = D.int (F m.to_) := fun h' => yCs_at b2 h'
  have nfr : ∀ j, (fb = h.next + j) = False := fun j => by simp; omega
  have n9r : ∀ j, (b9 = h.next + j) = False := fun j => by simp; omega
  have l1 : m.fr + 1 ≤ (marksF l).length := b1
  have l2 : m.to_ + 1 ≤ (marksF l).length := b2
  have w3 : IntKind.i64.wrap (F m.fr - 1) = F m.fr - 1 := by have := hF.2 m.fr b1; exact wrap_i64 (by omega) (by omega)
  by_cases hij : i = jt
  · have hmt : m = mt := by
      rw [hij, hjt] at hmo
      exact (Option.some.inj hmo).symm
    subst hmt
    unfold nxt at hnt
    simp only [Bool.and_eq_true, beq_iff_eq] at hnt
    obtain ⟨⟨t1, t2⟩, t3⟩ := hnt
    have e1 : tfI A pb m = m.fr := by unfold tfI; rw [t3]; rfl
    have e2 : ttI A pb m = m.to_ := by unfold ttI; rw [t3]; rfl
    rw [e1, e2] at c58
    subst t1
    have q1 : (F m.to_ == F m.fr - 1) = true := by simp [t2]
    rcases gs with ⟨ec, g20⟩ | ⟨ec, kk, g20, gg, nk⟩
    · subst ec
      simp [-beq_iff_eq, k17l3, v0, v9, v11, v13, v21, v121, v122, v123, hi, hmi, stD, stC, hfr, Nat.add_assoc, g9, n9r, nfr, c58, D.cells, D.one, gf, hyl, y1, y2, b1, b2, l1, l2, w3, q1, g20, zerosD, apK_some, List.range_succ, room, maxLen]
      refine ⟨rfl, _, _, rfl, ⟨by simp [v0, clsD], by simp [K.v1], by simp [K.v2], by simp [K.v9], by simp [K.v11], by simp [K.v12], by simp [K.v13], by simp [K.g9, n9r], by simp; omega, by simp; omega, ?_⟩, by simp, by simp [gf, nfr], .inr ⟨by simp, h.next + 785, by simp, by simp [stC], by simp⟩⟩
      repeat' first | exact hfr' | apply Heap.Fr.bump | apply Heap.Fr.set
      all_goals first | omega | (simp <;> omega)
    · have lc : c.length ≠ 0 := fun e => ec (List.eq_nil_of_length_eq_zero e)
      have nkr : ∀ t, (kk = h.next + t) = False := fun t => by simp; omega
      have nkr' : ∀ t, (h.next + t = kk) = False := fun t => by simp; omega
      have nk9 : (b9 = kk) = False := by
        simp; intro e; rw [e, gg] at g9; cases g9
      have nkf : (fb = kk) = False := by
        simp; intro e; rw [e, gg] at gf; cases gf
      have hl2 : (c.flatMap fun m => stC (stO m)).length = c.length * 2 := length_flatMap (fun m => stC (stO m)) (fun _ => rfl) c
      obtain ⟨C, hC⟩ : ∃ C, C = c.flatMap fun m => stC (stO m) := ⟨_, rfl⟩
      rw [← hC] at hl2 gg
      have happ := fun t hh news => appS_none (t := t) (et := 61) (sz := 2) (bytes := 16) (h := hh) (m := 1) (news := news) (k := kk) (n := c.length) (cs := C) hl2 (by omega) (by unfold room; omega) (by unfold maxLen; omega)
      simp [-beq_iff_eq, k17l3, v0, v9, v11, v13, v21, v121, v122, v123, hi, hmi, stD, stC, hfr, Nat.add_assoc, g9, n9r, nfr, c58, D.cells, D.one, gf, hyl, y1, y2, b1, b2, l1, l2, w3, q1, g20, zerosD, apK_some, List.range_succ, gg, happ, nkr, nkr', nk9, nkf]
      refine ⟨rfl, _, _, rfl, ⟨by simp [v0, clsD], by simp [K.v1], by simp [K.v2], by simp [K.v9], by simp [K.v11], by simp [K.v12], by simp [K.v13], by simp [K.g9, n9r, nk9], by simp; omega, by simp; omega, ?_⟩, by simp, by simp [gf, nfr, nkf], .inr ⟨by simp, h.next + 785, by simp, by simp [stC, hC], by simp⟩⟩
      repeat' first | exact hfr' | apply Heap.Fr.bump | apply Heap.Fr.set
      all_goals first | omega | (simp <;> omega)
  · have hn := hno i m (by omega) hmo
    have fin : ∀ (x' : Env 158) (h' : Heap), (∀ q, q < 22 → x'.v q = x.v q) → x'.v 121 = x.v 121 → x'.v 122 = x.v 122 → x'.v 123 = D.int (i + 1 : Nat) → (∀ q, q < h.next → h'.get q = h.get q) → h.next ≤ h'.next → h'.Fr → ∃ j, k = j + 1 ∧ M3 l A F fb b9 pb a b z cur jt c j ⟨x'.l, h', []⟩ := by
      intro x' h' u0 u76 u77 u78 u9 un uf
      exact ⟨k - 1, by omega, x', h', i + 1, rfl, by omega, ⟨by rw [u0 0 (by omega), K.v0], by rw [u0 1 (by omega), K.v1], by rw [u0 2 (by omega), K.v2], by rw [u0 9 (by omega), K.v9], by rw [u0 11 (by omega), K.v11], by rw [u0 12 (by omega), K.v12], by rw [u0 13 (by omega), K.v13], by rw [u9 _ n9, K.g9], by omega, by omega, uf⟩, by rw [u0 21 (by omega), v21], by rw [u76, v121, stsD], by rw [u77, v122], u78, by rw [u9 _ nf, gf], by rw [u0 20 (by omega)]; exact gs.keep un u9⟩
    have hfrr : ∀ q, q < h.next → ∀ t, (q = h.next + t) = False := fun q hq t => by simp; omega
    cases htd : tdI A pb (mvO m) with
    | false =>
      have e1 : tfI A pb m = -1 := by unfold tfI; rw [htd]; rfl
      have e2 : ttI A pb m = -1 := by unfold ttI; rw [htd]; rfl
      rw [e1, e2] at c58
      have q1 : ((-1 : Int) == (cur : Int)) = false := by simp <;> omega
      simp [-beq_iff_eq, -beq_eq_false_iff_ne, k17l3, v0, v9, v11, v13, v21, v121, v122, v123, hi, hmi, stD, stC, w1, hfr, Nat.add_assoc, g9, n9r, c58, D.cells, D.one, q1]
      refine fin _ _ (fun q hq => ?_) (by simp) (by simp) (by simp) (fun q hq => by simp [hfrr q hq]) (by simp <;> omega) ?_
      · have ne : ∀ t, 22 ≤ t → (t = q) = False := fun t ht => by simp; omega
        simp [ne]
      · repeat' first | exact hfr' | apply Heap.Fr.bump | apply Heap.Fr.set
        all_goals first | omega | (simp <;> omega)
    | true =>
      have e1 : tfI A pb m = m.fr := by unfold tfI; rw [htd]; rfl
      have e2 : ttI A pb m = m.to_ := by unfold ttI; rw [htd]; rfl
      rw [e1, e2] at c58
      by_cases q1 : m.fr = cur
      · subst q1
        have q2 : (F m.to_ == F m.fr - 1) = false := by
          unfold nxt at hn
          rw [htd, beq_self_eq_true, Bool.true_and, Bool.and_true] at hn
          exact hn
        simp [-beq_iff_eq, -beq_eq_false_iff_ne, k17l3, v0, v9, v11, v13, v21, v121, v122, v123, hi, hmi, stD, stC, w1, w3, hfr, Nat.add_assoc, g9, n9r, nfr, c58, D.cells, D.one, gf, hyl, y1, y2, b1, b2, l1, l2, q2]
        refine fin _ _ (fun q hq => ?_) (by simp) (by simp) (by simp) (fun q hq => by simp [hfrr q hq]) (by simp <;> omega) ?_
        · have ne : ∀ t, 22 ≤ t → (t = q) = False := fun t ht => by simp; omega
          simp [ne]
        · repeat' first | exact hfr' | apply Heap.Fr.bump | apply Heap.Fr.set
          all_goals first | omega | (simp <;> omega)
      · have q1' : ((m.fr : Int) == (cur : Int)) = false := by simp; omega
        simp [-beq_iff_eq, -beq_eq_false_iff_ne, k17l3, v0, v9, v11, v13, v21, v121, v122, v123, hi, hmi, stD, stC, w1, hfr, Nat.add_assoc, g9, n9r, nfr, c58, D.cells, D.one, q1']
        refine fin _ _ (fun q hq => ?_) (by simp) (by simp) (by simp) (fun q hq => by simp [hfrr q hq]) (by simp <;> omega) ?_
        · have ne : ∀ t, 22 ≤ t → (t = q) = False := fun t ht => by simp; omega
          simp [ne]
        · repeat' first | exact hfr' | apply Heap.Fr.bump | apply Heap.Fr.set
          all_goals first | omega | (simp <;> omega)
end Go.Proofs.YtfemldhlanoakaaDoor
/- The document's search: the chain; the function. -/
namespace Go.Proofs.YtfemldhlanoakaaDoor
open Go Go.Em Go.Em.Net
set_option maxRecDepth 100000
theorem Res.in6 {L : Option (Ex × St)} {i1 i2 : Nat} {P Q : Ex → St → Prop} (h : Res L P) (hk : ∀ x s, P x s → Res (blockK i1 (blockK i2 (some (x, s)))) Q) : Res (blockK i1 (blockK i2 L)) Q := by
  obtain ⟨x, s, rfl, p⟩ := h; exact hk x s p
theorem find_at {P : Mo → Bool} {L : List Mo} {m : Mo} (h : L.find? P = some m) : ∃ j : Nat, L[j]? = some m ∧ P m = true ∧ ∀ (i : Nat) (x : Mo), i < j → L[i]? = some x → P x = false := by
  obtain ⟨h1, i, hi, e, h2⟩ := List.find?_eq_some_iff_getElem.1 h
  refine ⟨i, by rw [List.getElem?_eq_getElem hi, e], h1, fun j x hj hx => ?_⟩
  have := h2 j hj
  have hjl : j < L.length := by omega
  have ex : L[j] = x := Option.some.inj (by rw [← List.getElem?_eq_getElem hjl, hx])
  rw [ex] at this
  simpa using this
def M4 (l : List Clm) (A : Nat → Nat → Int) (F : Nat → Int) (fb b9 pb : Nat) (a b z : Int) (C : List Mo) (P : Nat → Nat → Prop) (k : Nat) (s : St) : Prop := ∃ (x : Env 158) (h : Heap) (cur : Nat) (c : List Mo), s = ⟨x.l, h, []⟩ ∧ KM l A fb b9 pb a b z x h ∧ x.v 21 = D.int cur ∧ h.get fb = some (.cells 3 (yCs (marksF l).length F)) ∧ GS c h (x.v 20) ∧ cur < (marksF l).length ∧ P cur k ∧ C = c ++ chF (moVs l) (tdI A pb) F k cur ∧ c.length + k ≤ 64
set_option maxHeartbeats 8000000 in
theorem m4_round {l : List Clm} (h0 : chkF l = 0) (A : Nat → Nat → Int) (hA : ∀ a b, -1000000000000 ≤ A a b ∧ A a b ≤ 1000000000000) (F : Nat → Int) (hF : Fb (marksF l).length F) (fb b9 pb : Nat) (hpb : pb < (marksF l).length) (a b z : Int) (C : List Mo) (P : Nat → Nat → Prop) (P0 : ∀ v, P v 0 → v = pb) (Pb : ∀ k, P pb k → k = 0) (Ps : ∀ v k, v < (marksF l).length → P v (k + 1) → ∃ m, (moVs l).find? (nxt (tdI A pb) F v) = some m ∧ P m.to_ k) :
    ∀ f, 2000 ≤ f → ∀ k s, M4 l A F fb b9 pb a b z C P k s → Res (k17l4.ev ⟨pg, 158, none⟩ (rc pg f) s) (Rnd (M4 l A F fb b9 pb a b z C P) (fun x s => x = .exit 6 ∧ M4 l A F fb b9 pb a b z C P 0 s) k) := by
  rintro f hf k s ⟨x, h, cur, c, rfl, K, v21, gf, gs, hcur, hP, hC, hk64⟩
  have v0 := K.v0
  have v11 := K.v11
  obtain ⟨hl1, hok, hl3⟩ := chk_ok h0
  by_cases hcb : cur = pb
  · subst hcb
    obtain rfl := Pb k hP
    simp [k17l4, v11, v21]
    exact ⟨_, _, cur, c, rfl, ⟨by simp [K.v0], by simp [K.v1], by simp [K.v2], by simp [K.v9], by simp [K.v11], by simp [K.v12], by simp [K.v13], by simp [K.g9], by have := K.n9; simp; omega, by have := K.nf; simp; omega, K.fr.bump _⟩, by simp [v21], by simp [gf], by simpa using gs.keep (h' := h.bump 158) (by simp) (fun q _ => by simp), hcur, hP, hC, hk64⟩
  · cases k with
    | zero => exact absurd (P0 cur hP) hcb
    | succ k =>
      obtain ⟨m, hm, hPm⟩ := Ps cur k hcur hP
      obtain ⟨jt, j1, j2, j3⟩ := find_at hm
      have hjl : jt < (moVs l).length := (List.getElem?_eq_some_iff.1 j1).1
      have hL : (moVs l).length = 2 * l.length := by unfold moVs; rw [movs_len]
      have hcb' : ((cur : Int) != (pb : Int)) = true := by simp; omega
      have c57 := fun h => call_of (h := h) (pg := pg) (f := 57) rfl (cls_canon l) (steps_run l hl1 (f := f) (by omega))
      rw [← movs_st (marksF l) l] at c57
      have v0' := v0
      simp only [clsD, stsD] at v0' c57
      have hCn : C = (c ++ [m]) ++ chF (moVs l) (tdI A pb) F k m.to_ := by
        rw [hC]
        have : chF (moVs l) (tdI A pb) F (k + 1) cur = m :: chF (moVs l) (tdI A pb) F k m.to_ := by rw [chF, hm]
        rw [this]; simp
      simp [-bne_iff_ne, -List.map_map, k17l4, v11, v21, v0', hcb', c57, ev_loop]
      have hcl : c.length ≤ 64 := by omega
      refine Res.in6 (lp_rule 101 (M3 l A F fb b9 pb a b z cur jt c) _ (m3_round h0 A hA F hF fb b9 pb hpb a b z cur jt c hcl m j1 j2 j3) jt f _ (by omega) ⟨_, _, 0, rfl, by omega, ⟨by simp [K.v0], by simp [K.v1], by simp [K.v2], by simp [K.v9], by simp [K.v11], by simp [K.v12], by simp [K.v13], by simp [K.g9], by have := K.n9; simp; omega, by have := K.nf; simp; omega, ?_⟩, by simp [v21], by simp [stsD, moVs], by simp [moVs], by simp, by simp [gf], by simpa using gs.keep (h' := (h.bump 158).bump 158) (by simp; omega) (fun q _ => by simp)⟩) ?_
      · repeat' first | exact K.fr | apply Heap.Fr.bump
      · rintro xo so ⟨rfl, x', h', rfl, K', w21, gf', gs'⟩
        simp
        exact ⟨_, _, m.to_, c ++ [m], rfl, K', w21, gf', gs', (mov_bd h0 (List.mem_of_getElem? j1)).2.1, hPm, hCn, by simp; omega⟩
end Go.Proofs.YtfemldhlanoakaaDoor
/- The document's Most is the program's; the law of bounds. -/
namespace Go.Proofs.YtfemldhlanoakaaDoor
open Go Go.Em Go.Em.Net
set_option maxRecDepth 100000
theorem ch_same {N : Mx} {L : List Mo} {b : Nat} {ld ld' : Mv → Bool} {f f' : Nat → Int} (hbb : N b b = some 0) (hld : ∀ m ∈ mvs L, N m.2.1 b ≠ none → (ld m = true ↔ Tight N b m)) (hld' : ∀ m ∈ mvs L, N m.2.1 b ≠ none → (ld' m = true ↔ Tight N b m)) (hval : ∀ v, f v ≠ -1 → ∃ k : Nat, f v = k ∧ Least N (mvs L) b v k) (hval' : ∀ v, f' v ≠ -1 → ∃ k : Nat, f' v = k ∧ Least N (mvs L) b v k) :
    ∀ k v, PN N L b f v k → PN N L b f' v k → chF L ld f k v = chF L ld' f' k v
  | 0, _, _, _ => rfl
  | k + 1, v, h, h' => by
    have hne : N b b ≠ none := by rw [hbb]; simp
    have one : ∀ {g g' : Nat → Int} {e e' : Mv → Bool}, (∀ m ∈ mvs L, N m.2.1 b ≠ none → (e m = true ↔ Tight N b m)) → (∀ m ∈ mvs L, N m.2.1 b ≠ none → (e' m = true ↔ Tight N b m)) → (∀ v, g v ≠ -1 → ∃ k : Nat, g v = k ∧ Least N (mvs L) b v k) → PN N L b g v (k + 1) → PN N L b g' v (k + 1) → ∀ m ∈ L, nxt e g v m = true → nxt e' g' v m = true := by
      intro g g' e e' he he' hv hg hg' m hm hn
      unfold nxt at hn ⊢
      simp only [Bool.and_eq_true, beq_iff_eq] at hn ⊢
      obtain ⟨⟨c1, c2⟩, c3⟩ := hn
      have g1 := hg.2.1
      have g2 := hg'.2.1
      have c2' : g m.to_ = k := by rw [c2, g1]; omega
      obtain ⟨j, hj1, hj2⟩ := hv m.to_ (by omega)
      have hjk : j = k := by omega
      subst hjk
      have hmv : mvO m ∈ mvs L := List.mem_map.2 ⟨m, hm, rfl⟩
      have hs : N (mvO m).2.1 b ≠ none := lw_some hne hj2.1
      refine ⟨⟨c1, ?_⟩, (he' _ hmv hs).2 ((he _ hmv hs).1 c3)⟩
      rw [hg'.2.2 m.to_ j hj2 (by omega), g2]
      omega
    have hf : L.find? (nxt ld f v) = L.find? (nxt ld' f' v) := by
      rw [← List.head?_filter, ← List.head?_filter]
      congr 1
      refine List.filter_congr fun m hm => ?_
      rw [Bool.eq_iff_iff]
      exact ⟨one hld hld' hval h h' m hm, one hld' hld hval' h' h m hm⟩
    obtain ⟨m, hm, p1⟩ := nx_ok hbb hld hval h
    obtain ⟨m', hm', p2⟩ := nx_ok hbb hld' hval' h'
    have e : m = m' := by rw [hf, hm'] at hm; exact (Option.some.inj hm).symm
    subst e
    show (match L.find? (nxt ld f v) with | some m => m :: chF L ld f k m.to_ | none => []) = (match L.find? (nxt ld' f' v) with | some m => m :: chF L ld' f' k m.to_ | none => [])
    rw [hm, hm']
    show m :: chF L ld f k m.to_ = m :: chF L ld' f' k m.to_
    rw [ch_same hbb hld hld' hval hval' k m.to_ p1 p2]
theorem td_tight {l : List Clm} (h0 : chkF l = 0) (hb : badF l = false) {b : Nat} : ∀ m ∈ mvs (moVs l), cloF l m.2.1 b ≠ none → (tdI (encM (cloF l)) b m = true ↔ Tight (cloF l) b m) := by
  intro m hm hq
  rw [← ld_tight h0 hb m hm hq]
  have hne : encM (cloF l) m.2.1 b ≠ 1000000000 := fun e => hq ((enc_far (clo_bt h0 hb)).1 e)
  unfold tdI ldI
  simp [hne]
/-- The whole search: the same chain. -/
theorem doc_chain {l : List Clm} (h0 : chkF l = 0) (hb : badF l = false) {pa pb : Nat} (hpa : pa < (marksF l).length) (hpb : pb < (marksF l).length) {z : Int} (hz : cloF l pa pb = some z) :
    ∃ j : Nat, j < (marksF l).length ∧ (∀ v, bN l (encM (cloF l)) pb (marksF l).length v ≠ -1 → ∃ k : Nat, bN l (encM (cloF l)) pb (marksF l).length v = k ∧ Least (cloF l) (mvs (moVs l)) pb v k) ∧ PN (cloF l) (moVs l) pb (bN l (encM (cloF l)) pb (marksF l).length) pa j ∧
      chF (moVs l) (tdI (encM (cloF l)) pb) (bN l (encM (cloF l)) pb (marksF l).length) j pa = chnF l pa pb := by
  obtain ⟨j, j1, j2, j3, j6⟩ := most_facts h0 hb hpa hpb hz
  have hd := (clo_clsd h0 hb).diag pb hpb
  have hbb : cloF l pb pb ≠ none := by rw [hd]; simp
  have inv := bfsN_inv (a := (marksF l).length) (td_tight h0 hb (b := pb)) hbb (marksF l).length
  have hfb := (bN_fb h0 (encM (cloF l)) hpb (marksF l).length (chk_ok h0).2.2).1
  have hall : ∀ v k, Least (cloF l) (mvs (moVs l)) pb v k → bN l (encM (cloF l)) pb (marksF l).length v = k := fun v k hk => by
    have hkn := least_lt (n := (marksF l).length) (fun m hm => by
      obtain ⟨mo, hmo, rfl⟩ := List.mem_map.1 hm
      exact (mov_bd h0 hmo).1) hpb hk
    exact inv.all hfb v k hk (by omega)
  have hval : ∀ v, bN l (encM (cloF l)) pb (marksF l).length v ≠ -1 → ∃ k : Nat, bN l (encM (cloF l)) pb (marksF l).length v = k ∧ Least (cloF l) (mvs (moVs l)) pb v k := inv.val
  have hPN : PN (cloF l) (moVs l) pb (bN l (encM (cloF l)) pb (marksF l).length) pa j := ⟨j3.1, hall pa j j3.1, fun w i hw _ => hall w i hw⟩
  refine ⟨j, j1, hval, hPN, ?_⟩
  have e : (fX l pa pb pa).toNat = j := by omega
  unfold chnF
  rw [e]
  exact ch_same hd (td_tight h0 hb) (ld_tight h0 hb) hval j6 j pa hPN j3
end Go.Proofs.YtfemldhlanoakaaDoor
/- The document's Most, by the evaluator. -/
namespace Go.Proofs.YtfemldhlanoakaaDoor
open Go Go.Em Go.Em.Net
set_option maxRecDepth 100000
theorem mo_flat (c : List Mo) : (c.flatMap fun m => stC (stO m)) = (c.map stO).flatMap stC := by rw [List.flatMap_map]
set_option maxHeartbeats 16000000 in
theorem rmost_run (l : List Clm) (a b : Int) {f : Nat} (hf : 4100 ≤ f) : pureCall (rc pg f) 17 [clsD l, D.int a, D.int b] = some (.ret (mosF l a b)) := by
  obtain ⟨m, rfl, e⟩ := body (pg := pg) (f := 17) (args := [clsD l, D.int a, D.int b]) (show 0 < f by omega) rfl rfl
  rw [e]
  have cA := fun h => call_of (h := h) (pg := pg) (f := 55) (args := [clsD l, D.int a, D.int b]) rfl (by simp [clsD, canonL_map clD cl_canon l]) (asked_run l a b (f := m) (by omega))
  simp only [clsD, askF] at cA
  by_cases hE : errF l a b = 0
  · obtain ⟨h0, hb, pa, pb, h1, h2, h3, h4, _⟩ := bet_ok hE
    obtain ⟨ma, mb⟩ := err_marks hE
    rw [hE] at cA
    have hc1 := ints_canonL (marksF l)
    have ia := index_pl h0 ma (n := m) (by omega)
    have ib := index_pl h0 mb (n := m) (by omega)
    rw [← h3] at ia
    rw [← h4] at ib
    have cI := fun h => call_of (h := h) (pg := pg) (f := 56) rfl (by simp [intsD, hc1]) ia
    have cJ := fun h => call_of (h := h) (pg := pg) (f := 56) rfl (by simp [intsD, hc1]) ib
    have s56 : pg.sh 56 = false := rfl
    have hbt := clo_bt h0 hb
    have hbd := enc_bd hbt
    have hn64 := (chk_ok h0).2.2
    have yl := fun i => yCs_len (marksF l).length (encM (cloF l) i)
    have g2 : ∀ i, ∀ h' : pb < (yCs (marksF l).length (encM (cloF l) i)).length, (yCs (marksF l).length (encM (cloF l) i))[pb]'h' = D.int (encM (cloF l) i pb) := fun i h' => yCs_at h2 h'
    simp only [if_true, nD, intsD, rowsD] at cA cI cJ ia
    cases hz : cloF l pa pb with
    | none =>
      have ed : mosF l a b = .tup [D.int 0, .sl false [], D.int 5] := by unfold mosF; rw [if_neg (by omega), ← h3, ← h4, if_pos hz]
      have e9 : encM (cloF l) pa pb = 1000000000 := (enc_far hbt).2 hz
      simp [k17, Env.v_ini, clsD, D.cells, D.one, cA, cI, cJ, dcore_f, s56, ia, hc1, h1, h2, yl, g2, e9, ed]
    | some z =>
      have ed : mosF l a b = .tup [D.int (encM (cloF l) pa pb), stsD ((chnF l pa pb).map stO), D.int 0] := by unfold mosF; rw [if_neg (by omega), ← h3, ← h4, if_neg (by rw [hz]; simp)]
      have e9 : (encM (cloF l) pa pb == 1000000000) = false := by
        have : encM (cloF l) pa pb ≠ 1000000000 := fun q => by
          have := (enc_far (a := pa) (b := pb) hbt).1 q
          rw [hz] at this; cases this
        simpa using this
      have hr1 : (8 : Int) * (marksF l).length ≤ (room : Int) := by unfold room; omega
      have z1 : zerosD [.int .i64 0] 1 (marksF l).length = yCs (marksF l).length (FmI (marksF l).length 0) := by
        unfold zerosD yCs
        rw [Nat.mul_one]
        refine List.map_congr_left fun q _ => ?_
        simp [Nat.mod_one, FmI]
      rw [ed]
      simp [-beq_eq_false_iff_ne, k17, Env.v_ini, clsD, D.cells, D.one, cA, cI, cJ, dcore_f, s56, ia, hc1, h1, h2, yl, g2, e9, hr1, z1, ev_loop]
      have hfr0 : ∀ (h : Heap), h.Fr → ∀ j, h.raw (h.next + j) = none := fun h hf j => hf _ (by omega)
      refine Res.endsAfter (lp_rule 0 (M0 l (encM (cloF l)) 1004 167 pb a b (encM (cloF l) pa pb)) _ (m0_round l hn64 (encM (cloF l)) 1004 167 pb a b (encM (cloF l) pa pb)) (marksF l).length m _ (by omega) ⟨_, _, 0, rfl, by omega, ⟨by simp [Env.v_ini, clsD], by simp [Env.v_ini], by simp [Env.v_ini], by simp, by simp, by simp, by simp, by simp [intsD, rowsD], by simp, by simp, ?_⟩, by simp, by simp, by simp⟩) ?_
      · repeat' first | exact Heap.Fr.empty | apply Heap.Fr.bump | apply Heap.Fr.set
        all_goals first | omega | (simp <;> omega)
      rintro xo so ⟨rfl, x, h, i, rfl, hi, K, v58, v59, gf⟩
      have hin : i = (marksF l).length := by omega
      subst hin
      have hyl := yCs_len (marksF l).length (FmI (marksF l).length (marksF l).length)
      have p1 : pb + 1 ≤ (marksF l).length := h2
      have hst : (yCs (marksF l).length (FmI (marksF l).length (marksF l).length)).take pb ++ D.int 0 :: (yCs (marksF l).length (FmI (marksF l).length (marksF l).length)).drop (pb + 1) = yCs (marksF l).length (bN l (encM (cloF l)) pb 0) := by
        have : ∀ q, q < (marksF l).length → bN l (encM (cloF l)) pb 0 q = if q = pb then 0 else FmI (marksF l).length (marksF l).length q := fun q hq => by
          show (if q = pb then (0 : Int) else -1) = _
          unfold FmI
          simp [hq]
        have e2 : yCs (marksF l).length (bN l (encM (cloF l)) pb 0) = yCs (marksF l).length (fun q => if q = pb then 0 else FmI (marksF l).length (marksF l).length q) := by
          unfold yCs
          exact List.map_congr_left fun q hq => by rw [this q (List.mem_range.1 hq)]
        rw [e2, ← yCs_set, List.set_eq_take_append_cons_drop, if_pos (by rw [hyl]; exact h2)]
      have v11 := K.v11
      have v13 := K.v13
      have n9f : (167 = 1004) = False := by simp
      simp [v11, v13, gf, hyl, h2, p1, hst, D.cells, D.one, ev_loop]
      refine Res.endsAfter (lp_rule 2000 (M2 l (encM (cloF l)) 1004 167 pb a b (encM (cloF l) pa pb)) _ (m2_round h0 (encM (cloF l)) hbd 1004 167 pb h2 a b (encM (cloF l) pa pb)) (marksF l).length m _ (by omega) ⟨_, _, 0, rfl, by omega, ⟨by simp [K.v0], by simp [K.v1], by simp [K.v2], by simp [K.v9], by simp [K.v11], by simp [K.v12], by simp [K.v13], by simp [K.g9], by have := K.n9; simp <;> omega, by have := K.nf; simp <;> omega, ?_⟩, by simp, by simp⟩) ?_
      · repeat' first | exact K.fr | apply Heap.Fr.bump | apply Heap.Fr.set
        all_goals first | exact K.nf | (have := K.nf; simp <;> omega)
      rintro xo so ⟨rfl, x2, h2', r, rfl, hr, K2, w15, gf2⟩
      have hrn : r = (marksF l).length := by omega
      subst hrn
      obtain ⟨j, j1, hval, hPN, hch⟩ := doc_chain h0 hb h1 h2 hz
      have hd := (clo_clsd h0 hb).diag pb h2
      have g9 := K2.g9
      have v9 := K2.v9
      have v1 := K2.v1
      simp only [intsD, rowsD] at g9
      simp [v9, v1, g9, cI, ev_loop]
      refine Res.endsAfter (lp_rule 2000 (M4 l (encM (cloF l)) (bN l (encM (cloF l)) pb (marksF l).length) 1004 167 pb a b (encM (cloF l) pa pb) (chnF l pa pb) (fun v k => PN (cloF l) (moVs l) pb (bN l (encM (cloF l)) pb (marksF l).length) v k)) _ (m4_round h0 (encM (cloF l)) hbd _ (bN_fb h0 (encM (cloF l)) h2 (marksF l).length hn64) 1004 167 pb h2 a b (encM (cloF l) pa pb) (chnF l pa pb) _ (fun v hv => hv.1.of_zero) (fun k hk => hk.1.uniq Least.zero) (fun v k _ hv => nx_ok hd (td_tight h0 hb) hval hv)) j m _ (by omega) ⟨_, _, pa, [], rfl, ⟨by simp [K2.v0], by simp [K2.v1], by simp [K2.v2], by simp [K2.v9], by simp [K2.v11], by simp [K2.v12], by simp [K2.v13], by simp [K2.g9], by have := K2.n9; simp <;> omega, by have := K2.nf; simp <;> omega, ?_⟩, by simp, by simp [gf2], .inl ⟨rfl, by simp⟩, h1, hPN, by rw [hch]; rfl, by simp <;> omega⟩) ?_
      · repeat' first | exact K2.fr | apply Heap.Fr.bump
      rintro xo so ⟨rfl, x3, h3', cur, c, rfl, K3, w21, gf3, gs3, _, _, hC, _⟩
      have hCc : chnF l pa pb = c := by rw [hC]; simp [chF]
      rw [hCc]
      have v12 := K3.v12
      obtain ⟨S, hS⟩ : ∃ S, S = c.map stO := ⟨_, rfl⟩
      rw [← hS]
      rcases gs3 with ⟨ec, g20⟩ | ⟨ec, kk, g20, gg, nk⟩
      · have : S = [] := by rw [hS, ec]; rfl
        subst this
        simp [v12, g20, stsD]
      · have hSl : c.length = S.length := by rw [hS, List.length_map]
        rw [mo_flat, ← hS] at gg
        have hcl2 : (S.flatMap stC).length = S.length * 2 := length_flatMap (sz := 2) stC (fun _ => rfl) S
        have ht : List.take (S.length * 2) (S.flatMap stC) = S.flatMap stC := List.take_of_length_le (by omega)
        have hcf := chunk_flatMap (sz := 2) stC (by omega) (fun s => rfl) S S.length rfl
        have hx := fun H n => each_canon H n _ (stc_canon S)
        simp [v12, g20, gg, hSl, hcl2, ht, hx, hcf, stsD]
        exact fun _ _ => rfl
  · have ed : mosF l a b = .tup [D.int 0, .sl false [], D.int (errF l a b)] := by unfold mosF; rw [if_pos hE]
    have q : (errF l a b != 0) = true := by simpa using hE
    simp only [if_neg hE, nilW] at cA
    simp [-bne_iff_ne, k17, Env.v_ini, clsD, D.cells, D.one, cA, ed, q]
end Go.Proofs.YtfemldhlanoakaaDoor
/- Bounds and Most agree with the document: the law, by the evaluator. -/
namespace Go.Proofs.YtfemldhlanoakaaDoor
open Go Go.Em Go.Em.Net
set_option maxRecDepth 100000
def SsI (L : List Stp) (k : Nat) (s : St) : Prop := ∃ (x : Env 26) (h : Heap) (i : Nat), s = ⟨x.l, h, []⟩ ∧ i + k = L.length ∧ x.v 0 = stsD L ∧ x.v 1 = stsD L ∧ x.v 12 = D.int L.length ∧ x.v 13 = D.int i
set_option maxHeartbeats 8000000 in
theorem ss_round (L : List Stp) (hL : L.length ≤ 1000) : ∀ n, 0 ≤ n → ∀ k s, SsI L k s → Res (k18l0.ev ⟨pg, 26, none⟩ (rc pg n) s) (Rnd (SsI L) (fun x s => x = .exit 0 ∧ SsI L 0 s) k) := by
  rintro n hn k s ⟨x, h, i, rfl, hik, v0, v1, v12, v13⟩
  simp only [stsD] at v0 v1
  by_cases hi : i < L.length
  · have w1 : IntKind.i64.wrap ((i : Int) + 1) = (i : Int) + 1 := wrap_i64 (by omega) (by omega)
    obtain ⟨c, hc⟩ : ∃ c, L[i] = c := ⟨_, rfl⟩
    simp [k18l0, v0, v1, v12, v13, hi, hc, stD, stC, w1, D.cells]
    exact ⟨k - 1, by omega, _, _, i + 1, rfl, by omega, by simp [v0, stsD], by simp [v1, stsD], by simp [v12], by simp⟩
  · simp [k18l0, v12, v13, hi]
    exact ⟨_, _, i, rfl, by omega, by simp [v0, stsD], by simp [v1, stsD], by simp [v12], by simp [v13]⟩
theorem ss_run (L : List Stp) (hL : L.length ≤ 1000) {n : Nat} (hn : 1100 ≤ n) : pureCall (rc pg n) 18 [stsD L, stsD L] = some (.ret (D.bool true)) := by
  obtain ⟨m, rfl, e⟩ := body (pg := pg) (f := 18) (args := [stsD L, stsD L]) (show 0 < n by omega) rfl rfl
  rw [e]
  have hnn : ((L.length : Int) != (L.length : Int)) = false := by simp
  simp [k18, Env.v_ini, stsD, hnn, ev_loop]
  refine Res.endsAfter (lp_rule 0 (SsI L) _ (ss_round L hL) L.length m _ (by omega) ⟨_, _, 0, rfl, by omega, by simp [Env.v_ini, stsD], by simp [Env.v_ini, stsD], by simp, by simp⟩) ?_
  rintro x s ⟨rfl, x, h, i, rfl, _⟩
  simp
set_option maxHeartbeats 8000000 in
theorem bounds_law (l : List Clm) (a b : Int) {f : Nat} (hf : 8000 ≤ f) : pureCall (rc pg f) 4 [clsD l, D.int a, D.int b] = some (.ret (D.bool true)) := by
  obtain ⟨m, rfl, e⟩ := body (pg := pg) (f := 4) (args := [clsD l, D.int a, D.int b]) (show 0 < f by omega) rfl rfl
  rw [e]
  have hsn := fun h => @sane_call m (by omega) h
  have hcl := canonL_map clD cl_canon l
  have hca : D.canonL [clsD l, D.int a, D.int b] = true := by simp [clsD, hcl]
  have c15 := fun h => call_of (h := h) (pg := pg) (f := 15) rfl hca (bds_run l a b (f := m) (by omega))
  have c16 := fun h => call_of (h := h) (pg := pg) (f := 16) rfl hca (rbds_run l a b (f := m) (by omega))
  have c12 := fun h => call_of (h := h) (pg := pg) (f := 12) rfl hca (most_run l a b (f := m) (by omega))
  have c17 := fun h => call_of (h := h) (pg := pg) (f := 17) rfl hca (rmost_run l a b (f := m) (by omega))
  obtain ⟨x, y, z, hB⟩ : ∃ x y z : Int, bdsF l a b = .tup [D.int x, D.int y, D.int z] := by
    unfold bdsF
    split
    · exact ⟨_, _, _, rfl⟩
    · exact ⟨_, _, _, rfl⟩
  obtain ⟨n, S, g, hM, hS⟩ : ∃ (n : Int) (S : List Stp) (g : Int), mosF l a b = .tup [D.int n, stsD S, D.int g] ∧ S.length ≤ 64 := by
    unfold mosF
    split
    · exact ⟨_, [], _, rfl, by simp⟩
    · rename_i hE
      split
      · exact ⟨_, [], _, rfl, by simp⟩
      · rename_i hne
        obtain ⟨h0, hb, pa, pb, h1, h2, h3, h4, _⟩ := bet_ok (show errF l a b = 0 by omega)
        obtain ⟨q, hq⟩ := Option.ne_none_iff_exists'.1 hne
        refine ⟨_, _, _, rfl, ?_⟩
        have := (chn_ok h0 hb (by rw [← h3]; exact h1) (by rw [← h4]; exact h2) hq).1
        have := (chk_ok h0).2.2
        rw [List.length_map]; omega
  rw [hB] at c15 c16
  rw [hM] at c12 c17
  have c18 := fun h => call_of (h := h) (pg := pg) (f := 18) (args := [stsD S, stsD S]) rfl (by have := sts_canon S; simp [stsD, this]) (ss_run S (by omega) (n := m) (by omega))
  simp only [clsD, stsD] at c12 c15 c16 c17 c18
  simp [k4, Env.v_ini, clsD, D.cells, D.one, c12, c15, c16, c17, c18, hsn]
end Go.Proofs.YtfemldhlanoakaaDoor
