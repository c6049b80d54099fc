/- The world of the sources that may be kept, in the heap. -/
import Derived.Test.YtlfknfknlcgfcaaGreatDoorZl
import Derived.Test.YtlfknfknlcgfcaaGreatDoorY9
namespace Go.Proofs.YtlfknfknlcgfcaaGreatDoor
open Go Go.Em
set_option maxRecDepth 100000
theorem keep_k {gl : Nat → Option (List D)} {base : Nat} {e : List D} {s k o n : Nat} {ag : Bool} {x : X} (h1 : rd gl e x = .ptr k o) (h2 : atId (e.getD s .junk) = some k) : keepB gl base e [.keep s] (.ld ag n x) = true := by
  have := kids_some (base := base) e s k [] h2
  simp [keepB, h1, this]
theorem dcore_cv {c : Cfg} {R : Rc} {base : Nat} (d : Option Nat) (f : FuncId) (args : List X) (s k : Nat) (wt : Nat) (e : List D) (h h' : Heap) (o : D) (hk : atId (e.getD s .junk) = some k) (hc : call c.pg R f (args.map (rd c.pg.gl e)) h = some (.ret o, h')) {ty : TypeId} {cs : List D} (hg : h.get k = some (.cells ty cs)) (hg' : h'.get k = some (.cells ty cs)) :
    dcore c R base ⟨⟨none, d, .inr (.fn f args)⟩, none, [.av s], wt, false⟩ e h = some (o, h') := by
  have ha : avids base e [.av s] = [k] := by
    have := avids_some (base := base) e s k [] hk
    rw [this]; rfl
  have hs : sameAt [k] h h' = true := sameAt_iff.2 fun q hq => by
    have : q = k := by simpa using hq
    subst this; rw [rdc_is, rdc_is, hg, hg', rdB_cells, rdB_cells]
  unfold dcore
  simp only [G.want, Bool.false_eq_true, if_false, hc, ha, hs, Bool.or_true, if_true]
theorem dcore_cn {c : Cfg} {R : Rc} {base : Nat} (d : Option Nat) (f : FuncId) (args : List X) (wt : Nat) (e : List D) (h h' : Heap) (o : D) (hc : call c.pg R f (args.map (rd c.pg.gl e)) h = some (.ret o, h')) :
    dcore c R base ⟨⟨none, d, .inr (.fn f args)⟩, none, [], wt, false⟩ e h = some (o, h') := by
  unfold dcore
  simp only [G.want, Bool.false_eq_true, if_false, hc, List.isEmpty_nil, Bool.true_or, if_true]
theorem qclone_n (m : Nat) (h : Heap) : (rc pg (m + 1)).fn 134 [.sl false []] h = none := by kernel_rfl
theorem qclone_nil (m : Nat) : pureCall (rc pg (m + 1)) 134 [.val (.slice none 0 0)] = some (.ret (.sl false [])) := by kernel_rfl
theorem qclone_e (m : Nat) : pureCall (rc pg (m + 1)) 134 [.sle] = some (.ret (.sl false [])) := by kernel_rfl
theorem qclone_0 {n : Nat} (hn : 1 ≤ n) (h : Heap) : call pg (rc pg n) 134 [.sl false []] h = some (.ret (.sl false []), h) := by
  obtain ⟨m, rfl⟩ := more_of hn
  unfold call
  simp only [show pg.sh 134 = true from rfl, if_true, qclone_n]
  unfold splitNil
  simp only [qclone_nil, qclone_e, Option.map_some]
theorem appS_zero2 {t : Nat} {h : Heap} {m : Nat} {news cs : List D} {k : Nat} {ty : TypeId} (h0 : 0 < m) (hr : m * 32 ≤ room) (hm : m ≤ maxLen) :
    appS t 83 2 32 h m news k 0 0 2 (some 0) (some (.cells ty cs)) = (h.alloc t (.cells 83 news)).map fun h => (.slr t 0 m 2 none, h) := by
  unfold appS
  simp [hr, hm, show ¬ m = 0 by omega]
theorem qs_nil {l : List Qst} (h : l ≠ []) : nilOf .slice (D.sl false (l.map qD)) = some false := by
  cases l with
  | nil => exact absurd rfl h
  | cons r l => rfl
theorem qs_cells : ∀ l : List Qst, (l.map qD).flatMap D.cells = l.flatMap qC
  | [] => rfl
  | r :: l => by rw [List.map_cons, List.flatMap_cons, List.flatMap_cons, qs_cells l]; rfl
theorem qs_one (l : List Qst) : (l.flatMap qC).all D.one = true := by
  rw [List.all_eq_true]
  intro d hd
  obtain ⟨r, _, h⟩ := List.mem_flatMap.1 hd
  simp only [qC, List.mem_cons, List.not_mem_nil, or_false] at h
  rcases h with rfl | rfl <;> rfl
set_option maxHeartbeats 2000000 in
theorem qclone_sh (l : List Qst) (hl : l.length * 32 ≤ 140737488355328) (hne : l ≠ []) {h : Heap} (hf : h.Fr) {n : Nat} (hn : 1 ≤ n) :
    ∃ k h', (rc pg n).fn 134 [qsD l] h = some (.ret (.slr k 0 l.length 2 none), h') ∧ h'.get k = some (.cells 83 (l.flatMap qC)) ∧ k < h'.next ∧ Sm h h' := by
  obtain ⟨m, rfl, e⟩ := fn_body (pg := pg) (f := 134) (args := [qsD l]) (h := h) (show 0 < n by omega) rfl rfl
  rw [e]
  have hfr : ∀ j, h.raw (h.next + j) = none := fun j => hf _ (by omega)
  have hn0 : nilOf .slice (.val (.slice none 0 0)) = some true := rfl
  have h1 := qs_nil hne
  have h2 := qs_cells l
  have h3 := qs_one l
  have hlen : l.length ≠ 0 := fun h => hne (List.eq_nil_of_length_eq_zero h)
  have z := fun t hh news k ty cs => appS_zero2 (t := t) (h := hh) (m := l.length) (news := news) (k := k) (ty := ty) (cs := cs) (by omega) (by unfold room; omega) (by unfold maxLen; omega)
  have hall : ∀ x : Qst, (D.cells (qD x)).length = 2 := fun _ => rfl
  simp [-nilOf, k134, Env.v_ini, qsD, h1, hn0, hall, h2, h3, hlen, zerosD, apK_some, z, hfr, Nat.add_assoc]
  refine ⟨_, _, ⟨rfl, rfl⟩, by simp, by simp <;> omega, by simp <;> omega, fun j hj => ?_, ?_⟩
  · simp
    repeat rw [if_neg (by omega)]
  · repeat' first | exact hf | apply Heap.Fr.bump | apply Heap.Fr.set
    all_goals (simp <;> omega)
theorem clone_any2 (l : List Clm) (hl : l.length * 40 ≤ 140737488355328) {h : Heap} (hf : h.Fr) {n : Nat} (hn : 1 ≤ n) :
    ∃ d h', call pg (rc pg n) 66 [clsD l] h = some (.ret d, h') ∧ Sm h h' ∧ ∃ k, (l = [] ∧ d = .sl false []) ∨ (d = .slr k 0 l.length 5 none ∧ h'.get k = some (.cells 96 (l.flatMap clC)) ∧ k < h'.next) := by
  by_cases hne : l = []
  · subst hne
    exact ⟨_, _, clone_0 hn h, ⟨Nat.le_refl _, fun _ _ => rfl, hf⟩, 0, .inl ⟨rfl, rfl⟩⟩
  · obtain ⟨d, h', e, ac, n1, g1, f1, _⟩ := clone_any (.inr ⟨hne, rfl⟩) hl hf hn
    refine ⟨d, h', call_sh (pg := pg) (show pg.sh 66 = true from rfl) e, ⟨n1, g1, f1⟩, ?_⟩
    rcases ac with ⟨h0, _⟩ | ⟨h0, _⟩ | ⟨k, a, b, c⟩
    · exact absurd h0 hne
    · exact absurd h0 hne
    · exact ⟨k, .inr ⟨a, b, c⟩⟩
theorem qclone_any (l : List Qst) (hl : l.length * 32 ≤ 140737488355328) {h : Heap} (hf : h.Fr) {n : Nat} (hn : 1 ≤ n) :
    ∃ d h', call pg (rc pg n) 134 [qsD l] h = some (.ret d, h') ∧ Sm h h' ∧ ∃ k, (l = [] ∧ d = .sl false []) ∨ (d = .slr k 0 l.length 2 none ∧ h'.get k = some (.cells 83 (l.flatMap qC)) ∧ k < h'.next) := by
  by_cases hne : l = []
  · subst hne
    exact ⟨_, _, qclone_0 hn h, ⟨Nat.le_refl _, fun _ _ => rfl, hf⟩, 0, .inl ⟨rfl, rfl⟩⟩
  · obtain ⟨k, h', e, g, kl, s⟩ := qclone_sh l hl hne hf hn
    exact ⟨_, h', call_sh (pg := pg) (show pg.sh 134 = true from rfl) e, s, k, .inr ⟨rfl, g, kl⟩⟩
theorem cells_fn (f : Fn) (a b : List D) : (D.fn f a b).cells = [.fn f a b] := rfl
theorem one_fn (f : Fn) (a b : List D) : (D.fn f a b).one = true := rfl
structure S2 (h h' : Heap) : Prop where
  n : h.next ≤ h'.next
  g : ∀ j ty cs, ty ≠ 96 → ty ≠ 83 → j < h.next → h.get j = some (.cells ty cs) → h'.get j = some (.cells ty cs)
  r : ∀ j, j < h.next → h.raw j = none → h'.raw j = none
  f : h'.Fr
set_option maxHeartbeats 8000000 in
theorem kept_sh (w : Wld) (L : List Int) (c : D) (hw : WR w) {h : Heap} (hf : h.Fr) (hc : CapI h c L) {n : Nat} (hn : 30000000000000 ≤ n) :
    ∃ d1 d2 h', (rc pg n).fn 64 [wD w, .fn (.func 65) [] [c]] h = some (.ret (.agg [d1, d2]), h') ∧ HC h' d1 (w.cl.filter fun c => !hasI L c.by_) ∧ HQ h' d2 (w.qs.filter fun q => !hasI L q.b) ∧ S2 h h' := by
  obtain ⟨m, rfl, e⟩ := fn_body (pg := pg) (f := 64) (args := [wD w, .fn (.func 65) [] [c]]) (h := h) (show 0 < n by omega) rfl rfl
  rw [e]
  have hfr : ∀ j, h.raw (h.next + j) = none := fun j => hf _ (by omega)
  have hcl := hw.cl
  have hqs := hw.qs
  obtain ⟨H, hH⟩ : ∃ H : Heap, H = ((((h.bump 16).set (h.next + 2) (some (.cells 25 [clsD w.cl, qsD w.qs]))).set (h.next + 3) (some (.cells 100 [.fn (.func 65) [] [c]]))).set (h.next + 4) (some (.cells 25 [.val (.slice none 0 0), .val (.slice none 0 0)]))).bump 16 := ⟨_, rfl⟩
  have sm : Sm h H := by
    rw [hH]
    refine ⟨by simp <;> omega, fun q hq => ?_, ?_⟩
    · have nn : ∀ j, (q = h.next + j) = False := fun j => by simp; omega
      simp [nn]
    · repeat' first | exact hf | apply Heap.Fr.bump | apply Heap.Fr.set
      all_goals (simp <;> omega)
  have hHn : H.next = h.next + 32 := by rw [hH]; simp
  have g2 : H.get (h.next + 2) = some (.cells 25 [clsD w.cl, qsD w.qs]) := by rw [hH]; simp
  have g3 : H.get (h.next + 3) = some (.cells 100 [.fn (.func 65) [] [c]]) := by rw [hH]; simp
  have g4 : H.get (h.next + 4) = some (.cells 25 [.val (.slice none 0 0), .val (.slice none 0 0)]) := by rw [hH]; simp
  have co : CapO H (.ptr (h.next + 3) 0) L := ⟨c, hc.sm sm, .inr ⟨_, rfl, by omega, g3⟩⟩
  obtain ⟨d7, h7, c66, s7, k7, hd7⟩ := clone_any2 w.cl hcl sm.f (n := m) (by omega)
  obtain ⟨d9, h9, e9, hc9, st9⟩ := delC_sh k7 (.ptr (h.next + 3) 0) L w.cl (by omega) s7.f (co.sm s7) hd7 (n := m) (by omega)
  have c131 := call_sh (pg := pg) (show pg.sh 131 = true from rfl) e9
  have co9 := (co.sm s7).st st9 (by decide) (by decide)
  obtain ⟨d12, h12, c134, s12, k12, hd12⟩ := qclone_any w.qs hqs st9.f (n := m) (by omega)
  obtain ⟨d14, h14, e14, hq14, st14⟩ := delQ_sh k12 (.ptr (h.next + 3) 0) L w.qs (by omega) s12.f (co9.sm s12) hd12 (n := m) (by omega)
  have c133 := call_sh (pg := pg) (show pg.sh 133 = true from rfl) e14
  have n7 := s7.n
  have n9 := st9.n
  have n12 := s12.n
  have n14 := st14.n
  have tr : ∀ j ty cs, ty ≠ 96 → ty ≠ 83 → j < H.next → H.get j = some (.cells ty cs) → h14.get j = some (.cells ty cs) := fun j ty cs t1 t2 hj hg => st14.g j ty cs t2 (by omega) (by rw [s12.g j (by omega)]; exact st9.g j ty cs t1 (by omega) (by rw [s7.g j hj]; exact hg))
  have g27 : h7.get (h.next + 2) = some (.cells 25 [clsD w.cl, qsD w.qs]) := by rw [s7.g _ (by omega)]; exact g2
  have g29 := st9.g _ 25 _ (by decide) (by omega) g27
  have g414 := tr _ 25 _ (by decide) (by decide) (by omega) g4
  simp only [clsD, qsD] at c66 c134 g2 g27 g29 hH
  have q66 : ∀ (y : Env 16) (b : Nat), y.v 2 = .ptr (h.next + 2) 0 → y.v 6 = .sl false (w.cl.map clD) → dcore ⟨pg, 16, none⟩ (rc pg m) b ⟨⟨none, some 7, .inr (.fn 66 [.s 6])⟩, none, [.av 2], 3, false⟩ y.l H = some (d7, h7) := fun y b u1 u2 =>
    dcore_cv _ _ _ 2 (h.next + 2) _ _ _ _ _ (by simp [u1]) (by simpa [u2] using c66) g2 g27
  have q131 : ∀ (y : Env 16) (b : Nat), y.v 2 = .ptr (h.next + 2) 0 → y.v 7 = d7 → y.v 8 = .fn (.func 132) [] [.ptr (h.next + 3) 0] → dcore ⟨pg, 16, none⟩ (rc pg m) b ⟨⟨none, some 9, .inr (.fn 131 [.s 7, .s 8])⟩, none, [.av 2], 15, false⟩ y.l h7 = some (d9, h9) := fun y b u1 u2 u3 =>
    dcore_cv _ _ _ 2 (h.next + 2) _ _ _ _ _ (by simp [u1]) (by simpa [u2, u3] using c131) g27 g29
  have q134 : ∀ (y : Env 16) (b : Nat), y.v 11 = .sl false (w.qs.map qD) → dcore ⟨pg, 16, none⟩ (rc pg m) b ⟨⟨none, some 12, .inr (.fn 134 [.s 11])⟩, none, [], 127, false⟩ y.l h9 = some (d12, h12) := fun y b u1 =>
    dcore_cn _ _ _ _ _ _ _ _ (by simpa [u1] using c134)
  have q133 : ∀ (y : Env 16) (b : Nat), y.v 12 = d12 → y.v 13 = .fn (.func 135) [] [.ptr (h.next + 3) 0] → dcore ⟨pg, 16, none⟩ (rc pg m) b ⟨⟨none, some 14, .inr (.fn 133 [.s 12, .s 13])⟩, none, [], 511, false⟩ y.l h12 = some (d14, h14) := fun y b u1 u2 =>
    dcore_cn _ _ _ _ _ _ _ _ (by simpa [u1, u2] using c133)
  have o9 : d9.one = true := by rcases hc9 with ⟨_, rfl⟩ | ⟨_, _, rfl, _⟩ <;> rfl
  have o14 : d14.one = true := by rcases hq14 with ⟨_, rfl⟩ | ⟨_, _, rfl, _⟩ <;> rfl
  have cl9 : d9.cells = [d9] := by rcases hc9 with ⟨_, rfl⟩ | ⟨_, _, rfl, _⟩ <;> rfl
  have cl14 : d14.cells = [d14] := by rcases hq14 with ⟨_, rfl⟩ | ⟨_, _, rfl, _⟩ <;> rfl
  simp [k64, Env.v_ini, wD, clsD, qsD, cells_a, cells_fn, one_fn, one_s, hfr, ← hH, g2, g29, keep_k (k := h.next + 2) (o := 1), q66, q131, q134, q133, o9, o14, cl9, cl14, g414]
  have sm14 : ∀ j ty cs, ty ≠ 25 → j < h14.next → h14.get j = some (.cells ty cs) → (h14.set (h.next + 4) (some (.cells 25 [d9, d14]))).get j = some (.cells ty cs) := fun j ty cs ht hj hg => by
    have : j ≠ h.next + 4 := by rintro rfl; rw [g414] at hg; cases hg; exact ht rfl
    simp [this, hg]
  refine ⟨_, _, _, ⟨⟨rfl, rfl⟩, rfl⟩, ?_, ?_, by simp; omega, fun j ty cs t1 t2 hj hg => ?_, fun j hj hr => ?_, ?_⟩
  · exact hc9.keep (by simp; omega) fun k cs hk hg => sm14 k 96 cs (by decide) (by omega) (st14.g k 96 cs (by decide) (by omega) (by rw [s12.g k hk]; exact hg))
  · exact hq14.keep (by simp) fun k cs hk hg => sm14 k 83 cs (by decide) hk hg
  · have : j ≠ h.next + 4 := by omega
    simp [this, tr j ty cs t1 t2 (by omega) (by rw [sm.g j hj]; exact hg)]
  · have : j ≠ h.next + 4 := by omega
    have hr14 := st14.r j (by omega) (by rw [s12.r j (by omega)]; exact st9.r j (by omega) (by rw [s7.r j (by omega), sm.r j hj]; exact hr))
    simp [this, hr14]
  · have := st14.f
    repeat' first | exact this | apply Heap.Fr.bump | apply Heap.Fr.set
    all_goals omega
end Go.Proofs.YtlfknfknlcgfcaaGreatDoor
/- The choices of a question are copied, by the program. -/
namespace Go.Proofs.YtlfknfknlcgfcaaGreatDoor
open Go Go.Em
set_option maxRecDepth 100000
structure Sk (k : Nat) (h h' : Heap) : Prop where
  n : h.next ≤ h'.next
  r : ∀ j, j < h.next → j ≠ k → h'.raw j = h.raw j
  f : h'.Fr
theorem Sk.g {k : Nat} {h h' : Heap} (s : Sk k h h') : ∀ j, j < h.next → j ≠ k → h'.get j = h.get j := fun j hj hk => by unfold Heap.get; rw [s.r j hj hk]
theorem Sm.sk {h h' : Heap} (s : Sm h h') (k : Nat) : Sk k h h' := ⟨s.n, fun j hj _ => s.r j hj, s.f⟩
theorem Sk.trans {k : Nat} {a b c : Heap} (x : Sk k a b) (y : Sk k b c) : Sk k a c := ⟨Nat.le_trans x.n y.n, fun j hj hk => by rw [y.r j (by have := x.n; omega) hk, x.r j hj hk], y.f⟩
theorem Sk.set {k : Nat} {h h' : Heap} (s : Sk k h h') (hk : k < h'.next) (B : Option Blk) : Sk k h (h'.set k B) := ⟨by simp; exact s.n, fun j hj hne => by simp [hne, s.r j hj hne], by apply Heap.Fr.set; exact s.f; exact hk⟩
def nilD : D := .val (.slice none 0 0)
def IwI (q : Qst) (h0 : Heap) (x0 : Env 51) (kch : Nat) (k : Nat) (s : St) : Prop := ∃ (x : Env 51) (h : Heap) (i : Nat) (ds : List D), s = ⟨x.l, h, []⟩ ∧ i + k = q.ch.length ∧ (∀ j, j = 4 ∨ j = 6 ∨ j = 7 ∨ j = 18 ∨ j = 19 ∨ j = 20 → x.v j = x0.v j) ∧ x.v 9 = .slr kch 0 q.ch.length 1 (some q.ch.length) ∧ x.v 30 = chD q.ch ∧ x.v 31 = D.int q.ch.length ∧ x.v 32 = D.int i ∧ h.get kch = some (.cells 22 (ds ++ List.replicate (q.ch.length - i) nilD)) ∧ kch < h.next ∧ All2 (HC h) ds (q.ch.take i) ∧ Sk kch h0 h ∧ h.Fr
set_option maxHeartbeats 8000000 in
theorem iw_round (q : Qst) (h0 : Heap) (x0 : Env 51) (kch : Nat) (hq : q.ch.length ≤ 20000000000000) (hM : ∀ l ∈ q.ch, l.length * 40 ≤ 140737488355328) : ∀ n, 4 ≤ n → ∀ k s, IwI q h0 x0 kch k s → Res (k19l0.ev ⟨pg, 51, none⟩ (rc pg n) s) (Rnd (IwI q h0 x0 kch) (fun x s => x = .exit 2 ∧ IwI q h0 x0 kch 0 s) k) := by
  rintro n hn k s ⟨x, h, i, ds, rfl, hik, vs, v9, v30, v31, v32, hg, hk, ha, hs, hf⟩
  simp only [chD] at v30
  by_cases hi : i < q.ch.length
  · obtain ⟨l, hl⟩ : ∃ l, q.ch[i] = l := ⟨_, rfl⟩
    have hlm : l.length * 40 ≤ 140737488355328 := hM l (by rw [← hl]; exact List.getElem_mem hi)
    have htk : q.ch.take (i + 1) = q.ch.take i ++ [l] := by rw [List.take_add_one, List.getElem?_eq_getElem hi, hl]; rfl
    have w1 : IntKind.i64.wrap ((i : Int) + 1) = (i : Int) + 1 := wrap_i64 (by omega) (by omega)
    have hdl := ha.len
    rw [List.length_take] at hdl
    have sm : Sm h (((h.bump 51).bump 51).bump 51) := ((Sm.bump hf 51).trans (Sm.bump (hf.bump 51) 51)).trans (Sm.bump ((hf.bump 51).bump 51) 51)
    obtain ⟨d, h1, c66, s1, kd, hd⟩ := clone_any2 l hlm sm.f (n := n) (by omega)
    have s2 := sm.trans s1
    have g1 : h1.get kch = some (.cells 22 (ds ++ List.replicate (q.ch.length - i) nilD)) := by rw [s2.g kch hk]; exact hg
    have hlen : (ds ++ List.replicate (q.ch.length - i) nilD).length = q.ch.length := by simp; omega
    have hput : (ds ++ List.replicate (q.ch.length - i) nilD).take i ++ d :: (ds ++ List.replicate (q.ch.length - i) nilD).drop (i + 1) = (ds ++ [d]) ++ List.replicate (q.ch.length - (i + 1)) nilD := by
      have hdl' : ds.length = i := by omega
      rw [List.take_left' hdl', List.drop_append, List.drop_eq_nil_of_le (by omega), List.nil_append, hdl', List.drop_replicate, List.append_assoc, show i + 1 - i = 1 by omega, Nat.sub_sub]; rfl
    obtain ⟨cs, hcs⟩ : ∃ cs, cs = ds ++ List.replicate (q.ch.length - i) nilD := ⟨_, rfl⟩
    rw [← hcs] at g1 hlen hput
    have hcd : HC h1 d l := by
      rcases hd with ⟨rfl, rfl⟩ | ⟨rfl, hgd, hkd⟩
      · exact .inl ⟨rfl, rfl⟩
      · exact .inr ⟨kd, _, rfl, hgd, List.take_of_length_le (by rw [cells_len]; omega), by rw [cells_len]; omega, hkd⟩
    have od : d.one = true ∧ d.cells = [d] := by rcases hd with ⟨_, rfl⟩ | ⟨rfl, _⟩ <;> exact ⟨rfl, rfl⟩
    have hn1 := s2.n
    have hi' : i + 1 ≤ q.ch.length := hi
    simp only [clsD] at c66
    simp [k19l0, v9, v30, v31, v32, hi, hl, clsD, cells_s, w1, c66, g1, od.1, od.2, hlen, hi', hput]
    have sk3 : Sk kch h ((h1.set kch (some (.cells 22 (ds ++ d :: List.replicate (q.ch.length - (i + 1)) nilD)))).bump 51) := (((s2.sk kch).set (by omega) _)).trans ((Sm.bump (((s2.sk kch).set (by omega) _)).f 51).sk _)
    have kp : ∀ k cs2, k < h1.next → h1.get k = some (.cells 96 cs2) → ((h1.set kch (some (.cells 22 (ds ++ d :: List.replicate (q.ch.length - (i + 1)) nilD)))).bump 51).get k = some (.cells 96 cs2) := fun k cs2 hk2 hg2 => by
      have : k ≠ kch := by rintro rfl; rw [g1] at hg2; cases hg2
      simp [this, hg2]
    refine ⟨k - 1, by omega, _, _, i + 1, ds ++ [d], rfl, by omega, fun j hj => ?_, by simp [v9], by simp [v30, chD], by simp [v31], by simp, by simp, by simp; omega, ?_, hs.trans sk3, sk3.f⟩
    · rcases hj with rfl | rfl | rfl | rfl | rfl | rfl <;> simp [vs _ (.inl rfl), vs _ (.inr (.inl rfl)), vs _ (.inr (.inr (.inl rfl))), vs _ (.inr (.inr (.inr (.inl rfl)))), vs _ (.inr (.inr (.inr (.inr (.inl rfl))))), vs _ (.inr (.inr (.inr (.inr (.inr rfl)))))]
    · rw [htk]
      refine All2.snoc (hcd.keep (by simp) kp) (ha.mono fun _ _ x => x.keep (by simp; omega) fun k cs2 hk2 hg2 => kp k cs2 (by omega) (by rw [s2.g k hk2]; exact hg2))
  · simp [k19l0, v31, v32, hi]
    refine ⟨_, _, i, ds, rfl, by omega, fun j hj => ?_, by simp [v9], by simp [v30, chD], by simp [v31], by simp [v32], by simp [hg], by simp; omega, ?_, ?_, hf.bump _⟩
    · rcases hj with rfl | rfl | rfl | rfl | rfl | rfl <;> simp [vs _ (.inl rfl), vs _ (.inr (.inl rfl)), vs _ (.inr (.inr (.inl rfl))), vs _ (.inr (.inr (.inr (.inl rfl)))), vs _ (.inr (.inr (.inr (.inr (.inl rfl))))), vs _ (.inr (.inr (.inr (.inr (.inr rfl)))))]
    · exact ha.mono fun _ _ x => x.keep (by simp) fun k cs _ hg => by simpa using hg
    · exact hs.trans ((Sm.bump hf 51).sk _)
end Go.Proofs.YtlfknfknlcgfcaaGreatDoor
/- A world without some sources, by the program. -/
namespace Go.Proofs.YtlfknfknlcgfcaaGreatDoor
open Go Go.Em
set_option maxRecDepth 100000
def CH (h : Heap) (d : D) (ls : List (List Clm)) : Prop := ∃ k ds, d = .slr k 0 ls.length 1 (some ls.length) ∧ h.get k = some (.cells 22 ds) ∧ k < h.next ∧ All2 (HC h) ds ls
def pC (p : Int × D) : List D := [D.int p.1, p.2]
def PQ (h : Heap) (p : Int × D) (q : Qst) : Prop := p.1 = q.b ∧ CH h p.2 q.ch
theorem PQ.keep {h h' : Heap} {p : Int × D} {q : Qst} (g : PQ h p q) (hn : h.next ≤ h'.next) (hk : ∀ k ty cs, (ty = 22 ∨ ty = 96) → k < h.next → h.get k = some (.cells ty cs) → h'.get k = some (.cells ty cs)) : PQ h' p q := by
  obtain ⟨e, k, ds, a, b, c, ha⟩ := g
  exact ⟨e, k, ds, a, hk k 22 ds (.inl rfl) c b, by omega, ha.mono fun _ _ x => x.keep hn fun k cs hk1 hg => hk k 96 cs (.inr rfl) hk1 hg⟩
theorem pc_len (l : List (Int × D)) : (l.flatMap pC).length = l.length * 2 := length_flatMap pC (fun _ => rfl) l
theorem cells_map (l : List (D × D)) : (D.map l).cells = [.map l] := rfl
theorem one_map (l : List (D × D)) : (D.map l).one = true := rfl
def OwI (fl : Bool) (w : List Qst) (cl : List Clm) (k6 kq : Nat) (d1 d2 : D) (k : Nat) (s : St) : Prop := ∃ (x : Env 51) (h : Heap) (i : Nat) (ps : List (Int × D)) (tl : List D), s = ⟨x.l, h, []⟩ ∧ i + k = w.length ∧ x.v 4 = .ptr 4 0 ∧ x.v 6 = .ptr k6 0 ∧ x.v 18 = d2 ∧ x.v 19 = D.int w.length ∧ x.v 20 = D.int i ∧
  h.get 4 = some (.cells 25 [nilD, nilD]) ∧ 4 < h.next ∧ 4 ≠ k6 ∧ h.get k6 = some (.cells 25 [d1, d2]) ∧ k6 < h.next ∧ HC h d1 cl ∧ (fl = true → d2 = .slr kq 0 w.length 2 none) ∧ (fl = true → h.get kq = some (.cells 83 (ps.flatMap pC ++ ((w.drop i).flatMap qC ++ tl)))) ∧ (fl = true → kq < h.next) ∧ All2 (PQ h) ps (w.take i) ∧ (fl = false → w = [] ∧ d2 = .sl false []) ∧ h.Fr
set_option maxHeartbeats 16000000 in
theorem ow_round (fl : Bool) (w : List Qst) (cl : List Clm) (k6 kq : Nat) (d1 d2 : D) (hw : ∀ q ∈ w, q.ch.length * 24 ≤ 140737488355328 ∧ ∀ l ∈ q.ch, l.length * 40 ≤ 140737488355328) (hwl : w.length ≤ 20000000000000) : ∀ n, 10000000000000 ≤ n → ∀ k s, OwI fl w cl k6 kq d1 d2 k s → Res (k19l1.ev ⟨pg, 51, none⟩ (rc pg n) s) (Rnd (OwI fl w cl k6 kq d1 d2) (fun x s => x = .exit 0 ∧ OwI fl w cl k6 kq d1 d2 0 s) k) := by
  rintro n hn k s ⟨x, h, i, ps, tl, rfl, hik, v4, v6, v18, v19, v20, g4, l4, n46, g6, l6, hc1, hd2, hgq, hkq, ha, hfl, hf⟩
  by_cases hi : i < w.length
  · have hne : fl = true := by
      cases fl with
      | true => rfl
      | false => rw [(hfl rfl).1] at hi; simp at hi
    have hd2 := hd2 hne
    have hgq := hgq hne
    have hkq := hkq hne
    subst hd2
    obtain ⟨q, hq⟩ : ∃ q, w[i] = q := ⟨_, rfl⟩
    obtain ⟨hm1, hm2⟩ := hw q (by rw [← hq]; exact List.getElem_mem hi)
    have htk : w.take (i + 1) = w.take i ++ [q] := by rw [List.take_add_one, List.getElem?_eq_getElem hi, hq]; rfl
    have hdr : w.drop i = q :: w.drop (i + 1) := by rw [List.drop_eq_getElem_cons hi, hq]
    have w1 : IntKind.i64.wrap ((i : Int) + 1) = (i : Int) + 1 := wrap_i64 (by omega) (by omega)
    have hfr : ∀ j, h.raw (h.next + j) = none := fun j => hf _ (by omega)
    have hpl := ha.len
    rw [List.length_take] at hpl
    have hal : (ps.flatMap pC).length = i * 2 := by rw [pc_len]; omega
    rw [hdr, List.flatMap_cons] at hgq
    obtain ⟨A, hA⟩ : ∃ A, A = ps.flatMap pC := ⟨_, rfl⟩
    obtain ⟨B, hB⟩ : ∃ B, B = (w.drop (i + 1)).flatMap qC ++ tl := ⟨_, rfl⟩
    obtain ⟨Cq, hCq⟩ : ∃ Cq, Cq = A ++ (D.int q.b :: chD q.ch :: B) := ⟨_, rfl⟩
    have hgq' : h.get kq = some (.cells 83 Cq) := by rw [hgq, hCq, hA, hB]; simp [qC]
    rw [← hA] at hal
    have hCl : Cq.length = i * 2 + 2 + B.length := by rw [hCq]; simp [hal] <;> omega
    have hC1 : (Cq.drop (i * 2)).take 2 = [D.int q.b, chD q.ch] := by rw [hCq, List.drop_left' hal]; rfl
    have hC2 : ∀ d, Cq.take (i * 2 + 1) ++ d :: Cq.drop (i * 2 + 2) = A ++ (D.int q.b :: d :: B) := fun d => by
      rw [hCq, List.take_append, List.take_of_length_le (by omega), hal, List.drop_append, List.drop_eq_nil_of_le (by omega), hal, show i * 2 + 1 - i * 2 = 1 by omega, show i * 2 + 2 - i * 2 = 2 by omega]
      simp
    have hle : i * 2 + 2 ≤ Cq.length := by omega
    have ne1 : ∀ j, (kq = h.next + j) = False := fun j => by simp; omega
    have ne2 : ∀ j, (k6 = h.next + j) = False := fun j => by simp; omega
    simp only [chD] at hC1
    have hr24 : 24 * (q.ch.length : Int) ≤ (room : Int) := by unfold room; omega
    have hz : ∀ m, List.map (fun i => D.val (([Value.slice none 0 0] : List Value)[i % 1]?.getD undef)) (List.range m) = List.replicate m nilD := fun m => by
      rw [List.eq_replicate_iff]
      refine ⟨by simp, fun b hb => ?_⟩
      obtain ⟨j, _, rfl⟩ := List.mem_map.1 hb
      rw [Nat.mod_one]; rfl
    simp [k19l1, v18, v19, v20, hi, hgq', hle, hC1, cells_a, one_i, one_s, hfr, Nat.add_assoc, ev_loop, hr24, zerosD, hz]
    obtain ⟨H, hH⟩ : ∃ H : Heap, H = ((((((h.bump 51).bump 51).set (h.next + 59) (some (.cells 83 [D.int 0, .val (.slice none 0 0)]))).set (h.next + 59) (some (.cells 83 [D.int q.b, D.sl false (List.map clsD q.ch)]))).bump 51).set (h.next + 130) (some (.cells 22 (List.replicate q.ch.length nilD)))).bump 51 := ⟨_, rfl⟩
    have sm : Sm h H := by
      rw [hH]
      refine ⟨by simp <;> omega, fun z hz => ?_, ?_⟩
      · have nn : ∀ j, (z = h.next + j) = False := fun j => by simp; omega
        simp [nn]
      · repeat' first | exact hf | apply Heap.Fr.bump | apply Heap.Fr.set
        all_goals (simp <;> omega)
    have hHn : H.next = h.next + 204 := by rw [hH]; simp
    have hHg : H.get (h.next + 130) = some (.cells 22 (List.replicate q.ch.length nilD)) := by rw [hH]; simp
    rw [← hH]
    refine Res.yd (lp_rule 4 (IwI q H _ (h.next + 130)) _ (iw_round q H _ (h.next + 130) (by omega) hm2) q.ch.length n _ (by omega) ⟨_, _, 0, [], rfl, by omega, fun j hj => rfl, by simp, by simp [chD], by simp, by simp, by simp [hHg], by omega, by simp [All2], (Sm.mk (Nat.le_refl _) (fun _ _ => rfl) sm.f).sk _, sm.f⟩) ?_
    rintro y s ⟨rfl, y, h1, i1, ds, rfl, hi1, vs, y9, _, _, _, gk, lk, hds, sk, f1⟩
    have hil : i1 = q.ch.length := by omega
    subst hil
    rw [List.take_length] at hds
    rw [Nat.sub_self, List.replicate_zero, List.append_nil] at gk
    have y4 := vs 4 (.inl rfl)
    have y6 := vs 6 (.inr (.inl rfl))
    have y7 := vs 7 (.inr (.inr (.inl rfl)))
    have y18 := vs 18 (.inr (.inr (.inr (.inl rfl))))
    have y19 := vs 19 (.inr (.inr (.inr (.inr (.inl rfl)))))
    have y20 := vs 20 (.inr (.inr (.inr (.inr (.inr rfl)))))
    simp [v4, v6, v18, v19, v20] at y4 y6 y7 y18 y19 y20
    have n1 := sk.n
    have old : ∀ j, j < h.next → h1.get j = h.get j := fun j hj => by rw [sk.g j (by omega) (by omega), sm.g j hj]
    have g61 : h1.get k6 = some (.cells 25 [d1, .slr kq 0 w.length 2 none]) := by rw [old k6 l6]; exact g6
    have gq1 : h1.get kq = some (.cells 83 Cq) := by rw [old kq hkq]; exact hgq'
    have hC2' := hC2 (.slr (h.next + 130) 0 q.ch.length 1 (some q.ch.length))
    simp [y6, y7, y9, y20, g61, gq1, hi, hle, hC2', cells_slr, one_slr, w1]
    obtain ⟨N, hN⟩ : ∃ N : Heap, N = ((h1.bump 51).set kq (some (.cells 83 (A ++ D.int q.b :: D.slr (h.next + 130) 0 q.ch.length 1 (some q.ch.length) :: B)))).bump 51 := ⟨_, rfl⟩
    have keep : ∀ j ty cs, ty ≠ 83 → h1.get j = some (.cells ty cs) → N.get j = some (.cells ty cs) := fun j ty cs ht hg => by
      have : j ≠ kq := by rintro rfl; rw [gq1] at hg; cases hg; exact ht rfl
      rw [hN]; simp [this, hg]
    have nN : N.next = h1.next + 102 := by rw [hN]; simp
    have gN : N.get kq = some (.cells 83 (A ++ D.int q.b :: D.slr (h.next + 130) 0 q.ch.length 1 (some q.ch.length) :: B)) := by rw [hN]; simp
    have fN : N.Fr := by
      rw [hN]
      repeat' first | exact f1 | apply Heap.Fr.bump | apply Heap.Fr.set
      all_goals (simp <;> omega)
    have g4N : N.get 4 = some (.cells 25 [nilD, nilD]) := keep 4 25 _ (by decide) (by rw [old 4 l4]; exact g4)
    have g6N := keep k6 25 _ (by decide) g61
    rw [← hN]
    refine ⟨k - 1, by omega, _, _, i + 1, ps ++ [(q.b, .slr (h.next + 130) 0 q.ch.length 1 (some q.ch.length))], tl, rfl, by omega, by simp [y4], by simp [y6], by simp [y18], by simp [y19], by simp, g4N, by omega, n46, g6N, by omega, hc1.keep (by omega) (fun k cs hk hg => keep k 96 cs (by decide) (by rw [old k hk]; exact hg)), fun _ => rfl, fun _ => ?_, fun _ => by omega, ?_, fun e => (by rw [hne] at e; cases e), fN⟩
    · rw [gN, List.flatMap_append, ← hA, hB]; simp [pC]
    · rw [htk]
      exact All2.snoc ⟨rfl, _, ds, rfl, keep _ 22 _ (by decide) gk, by omega, hds.mono fun _ _ x => x.keep (by omega) fun k cs _ hg => keep k 96 cs (by decide) hg⟩ (ha.mono fun _ _ x => x.keep (by omega) fun k ty cs ht hk hg => keep k ty cs (by rcases ht with rfl | rfl <;> decide) (by rw [old k hk]; exact hg))
  · simp [k19l1, v19, v20, hi]
    exact ⟨_, _, i, ps, tl, rfl, by omega, by simp [v4], by simp [v6], by simp [v18], by simp [v19], by simp [v20], by simp [g4], by simp <;> omega, n46, by simp [g6], by simp; omega, hc1.keep (by simp) (fun k cs _ hg => by simpa using hg), hd2, fun e => by simpa using hgq e, fun e => by simp; have := hkq e; omega, ha.mono fun _ _ x => x.keep (by simp) (fun k ty cs _ _ hg => by simpa using hg), hfl, hf.bump _⟩
theorem HQ.all {d1 d2 : D} {k6 kq : Nat} {Q : List Qst} {cl : List Clm} {fl : Bool} {s : St} (o : OwI fl Q cl k6 kq d1 d2 0 s) : ∃ (x : Env 51) (h : Heap), s = ⟨x.l, h, []⟩ ∧ x.v 4 = .ptr 4 0 ∧ x.v 6 = .ptr k6 0 ∧ h.get 4 = some (.cells 25 [nilD, nilD]) ∧ 4 < h.next ∧ 4 ≠ k6 ∧ h.get k6 = some (.cells 25 [d1, d2]) ∧ HC h d1 cl ∧ (fl = false → Q = [] ∧ d2 = .sl false []) ∧ (fl = true → d2 = .slr kq 0 Q.length 2 none ∧ ∃ ps tl, h.get kq = some (.cells 83 (ps.flatMap pC ++ tl)) ∧ kq < h.next ∧ All2 (PQ h) ps Q) := by
  obtain ⟨x, h, i, ps, tl, rfl, hi, v4, v6, _, _, _, g4, l4, n46, g6, _, hc, h2, hg, hk, ha, hfl, _⟩ := o
  have hil : i = Q.length := by omega
  subst hil
  rw [List.take_length] at ha
  refine ⟨x, h, rfl, v4, v6, g4, l4, n46, g6, hc, hfl, fun e => ⟨h2 e, ps, tl, ?_, hk e, ha⟩⟩
  have := hg e
  rw [List.drop_length] at this
  simpa using this
theorem pq_frz {h : Heap} (n : Nat) : ∀ {ps : List (Int × D)} {Q : List Qst}, All2 (PQ h) ps Q → ∃ ks, each (Go.Em.frz h (n + 3)) (ps.flatMap pC) = some (Q.flatMap qC, ks)
  | [], [], _ => ⟨[], rfl⟩
  | p :: ps, q :: Q, a => by
    obtain ⟨ks, he⟩ := pq_frz n a.2
    obtain ⟨⟨e, k, ds, hd, hg, _, hds⟩, _⟩ := a
    have hx : ∃ ks, Go.Em.frz h (n + 3) p.2 = some (chD q.ch, ks) := by
      obtain ⟨k1, e1⟩ := each_all (f := Go.Em.frz h (n + 2)) (g := clsD) (fun d b x => x.frzn n) hds
      have hlen := hds.len
      refine ⟨k :: k1, ?_⟩
      rw [hd, frz_slr, hg, frzS_cells]
      simp only [List.drop_zero, Nat.zero_add, Nat.mul_one]
      rw [if_pos ⟨by omega, by omega⟩, List.take_of_length_le (by omega), e1]
      simp only [Option.map_some]
      rw [chunk_one _ _ (by simp)]; rfl
    obtain ⟨k1, e1⟩ := hx
    refine ⟨[] ++ (k1 ++ ks), ?_⟩
    rw [List.flatMap_cons, List.flatMap_cons]
    show each _ (D.int p.1 :: p.2 :: ps.flatMap pC) = some (D.int q.b :: chD q.ch :: Q.flatMap qC, _)
    rw [each_cons, each_cons, e1, he, eachK_some, e, frz_int, eachK_some]
  | [], _ :: _, a => a.elim
  | _ :: _, [], a => a.elim
set_option maxHeartbeats 4000000 in
theorem wo_end {Q : List Qst} {cl : List Clm} {k6 kq : Nat} {d1 d2 : D} {fl : Bool} {m : Nat} {y : Ex} {s : St} (hy : y = .exit 0) (o : OwI fl Q cl k6 kq d1 d2 0 s) : endK (rc pg m) [(.cell 4 25, true, 2)] (andThen (blockK 0 (some (y, s))) (Cd.ev ⟨pg, 51, none⟩ (rc pg m) (.seq (.region [⟨none, some 50, .inl (.ld true 2 (.s 6))⟩, ⟨none, none, .inl (.st 2 (.s 4) (.s 50))⟩]) .ret))) = some (.ret (.agg [clsD cl, qsD Q])) := by
  subst hy
  obtain ⟨x, h, rfl, v4, v6, g4, l4, n46, g6, hc, hfl, hq⟩ := HQ.all o
  have o1 : d1.one = true := by rcases hc with ⟨_, rfl⟩ | ⟨_, _, rfl, _⟩ <;> rfl
  have o2 : d2.one = true := by
    cases fl with
    | false => rw [(hfl rfl).2]; rfl
    | true => rw [(hq rfl).1]; rfl
  obtain ⟨N, hN⟩ : ∃ N : Heap, N = ((h.bump 51).set 4 (some (.cells 25 [d1, d2]))) := ⟨_, rfl⟩
  have keep : ∀ j ty cs, ty ≠ 25 → h.get j = some (.cells ty cs) → N.get j = some (.cells ty cs) := fun j ty cs ht hg => by
    have : j ≠ 4 := by rintro rfl; rw [g4] at hg; cases hg; exact ht rfl
    rw [hN]; simp [this, hg]
  have nN : N.next = h.next + 51 := by rw [hN]; simp
  obtain ⟨k1, e1⟩ := HC.frzn (hc.keep (h' := N) (by omega) fun k cs _ hg => keep k 96 cs (by decide) hg) 21
  have e2 : ∃ ks, Go.Em.frz N 23 d2 = some (qsD Q, ks) := by
    cases fl with
    | false => rw [(hfl rfl).2, (hfl rfl).1]; exact ⟨[], rfl⟩
    | true =>
      obtain ⟨rfl, ps, tl, hg, hk, ha⟩ := hq rfl
      have hl := ha.len
      obtain ⟨ks, he⟩ := pq_frz (h := N) 19 (ha.mono fun _ _ x => x.keep (h' := N) (by omega) fun k ty cs ht _ hg => keep k ty cs (by rcases ht with rfl | rfl <;> decide) hg)
      refine ⟨kq :: ks, ?_⟩
      rw [frz_slr, keep kq 83 _ (by decide) hg, frzS_cells]
      have hpl : (ps.flatMap pC).length = Q.length * 2 := by rw [pc_len]; omega
      simp only [List.drop_zero, Nat.zero_add]
      rw [if_pos ⟨by rw [List.length_append]; omega, by omega⟩, List.take_left' hpl, he]
      simp only [Option.map_some, qs_chunk Q _ rfl]; rfl
  obtain ⟨k2, e2⟩ := e2
  have gN4 : N.get 4 = some (.cells 25 [d1, d2]) := by rw [hN]; simp
  simp only [nilD] at g4
  simp [v4, v6, g6, cells_a, o1, o2, g4, ← hN, gN4, e1, e2]
set_option maxHeartbeats 16000000 in
theorem wo_run (w : Wld) (bl : List Int) (hw : WR w) (hb : bl.length ≤ 20000000000000) {n : Nat} (hn : 90000000000000 ≤ n) : pureCall (rc pg n) 19 [wD w, intsD bl] = some (.ret (wD (outW w bl))) := by
  obtain ⟨m, rfl, e⟩ := body (pg := pg) (f := 19) (args := [wD w, intsD bl]) (show 0 < n by omega) rfl rfl
  rw [e]
  have hcl := hw.cl
  have hqs := hw.qs
  have r63 := fun h => call_of (h := h) (pg := pg) (f := 63) rfl (by simp [intsD, ints_canonL]) (@setof_run bl hb m (by omega))
  obtain ⟨H, hH⟩ : ∃ H : Heap, H = ((((((Heap.empty.bump 51).set 2 (some (.cells 25 [clsD w.cl, qsD w.qs]))).set 4 (some (.cells 25 [nilD, nilD]))).bump 51).set 56 (some (.cells 97 [.val (.map none)]))).set 56 (some (.cells 97 [.map (mapD (setF bl))]))).bump 51 := ⟨_, rfl⟩
  have fH : H.Fr := by
    rw [hH]
    repeat' first | exact Heap.Fr.empty | apply Heap.Fr.bump | apply Heap.Fr.set
    all_goals simp
  have nH : H.next = 153 := by rw [hH]; simp
  have g56 : H.get 56 = some (.cells 97 [.map (mapD (setF bl))]) := by rw [hH]; simp
  have g4 : H.get 4 = some (.cells 25 [nilD, nilD]) := by rw [hH]; simp
  have r108 : H.raw 108 = none := by rw [hH]; simp
  obtain ⟨d1, d2, h1, e64, hc, hq, s2⟩ := kept_sh w (setF bl) (.ptr 56 0) hw fH (.inr ⟨56, rfl, by omega, g56⟩) (n := m) (by omega)
  have c64 := call_sh (pg := pg) (show pg.sh 64 = true from rfl) e64
  have g41 := s2.g 4 25 _ (by decide) (by decide) (by omega) g4
  have r1 := s2.r 108 (by omega) r108
  have n1 := s2.n
  have f1 := s2.f
  rw [outF_set] at hc
  have hoq : (w.qs.filter fun q => !hasI (setF bl) q.b) = outQ w.qs bl := by unfold outQ; congr 1; funext q; rw [hasI_set]
  rw [hoq] at hq
  have o1 : d1.one = true := by rcases hc with ⟨_, rfl⟩ | ⟨_, _, rfl, _⟩ <;> rfl
  have o2 : d2.one = true := by rcases hq with ⟨_, rfl⟩ | ⟨_, _, rfl, _⟩ <;> rfl
  simp only [wD, clsD, qsD, nilD] at c64 hH
  simp only [intsD] at r63
  have g2 : H.get 2 = some (.cells 25 [.sl false (w.cl.map clD), .sl false (w.qs.map qD)]) := by rw [hH]; simp
  have hQ := outQ_le w.qs bl
  have hWQ : ∀ q ∈ outQ w.qs bl, q.ch.length * 24 ≤ 140737488355328 ∧ ∀ l ∈ q.ch, l.length * 40 ≤ 140737488355328 := fun q hq => hw.ch q (List.mem_filter.1 hq).1
  obtain ⟨Q, hQe⟩ : ∃ Q, Q = outQ w.qs bl := ⟨_, rfl⟩
  rw [← hQe] at hQ hWQ hq
  have ew : wD (outW w bl) = .agg [clsD (outF w.cl bl), qsD Q] := by rw [hQe]; rfl
  rw [ew]
  obtain ⟨CL, hCL⟩ : ∃ CL, CL = outF w.cl bl := ⟨_, rfl⟩
  rw [← hCL] at hc ⊢
  have g41' := g41
  simp only [nilD] at g41'
  have n108 : ∀ j B, h1.get j = some B → j ≠ 108 := fun j B hg => by rintro rfl; rw [Heap.raw_of_get hg] at r1; cases r1
  rcases hq with ⟨hQ0, rfl⟩ | ⟨kq, cs, rfl, hgq, hcs, hcl2, hkq⟩
  · simp [k19, Env.v_ini, wD, clsD, qsD, intsD, cells_a, cells_map, one_map, one_s, r63, ← hH, g2, c64, r1, o1, o2, ev_loop]
    refine Res.endsAfter (lp_rule 10000000000000 (OwI false Q CL 108 0 d1 (.sl false [])) _ (ow_round false Q CL 108 0 d1 _ hWQ (by omega)) Q.length m _ (by omega) ⟨_, _, 0, [], [], rfl, by omega, by simp, by simp, by simp, by simp [hQ0], by simp, by simp [g41', nilD], by simp <;> omega, by decide, by simp, by simp; omega, hc.keep (by simp) (fun k cs hk hg => by simp [n108 k _ hg, hg]), fun e => (by cases e), fun e => (by cases e), fun e => (by cases e), by simp [All2], fun _ => ⟨hQ0, rfl⟩, ?_⟩) (fun y s ⟨hy, o⟩ => wo_end hy o)
    repeat' first | exact f1 | apply Heap.Fr.bump | apply Heap.Fr.set
    all_goals first | omega | (simp <;> omega)
  · have n108q : kq ≠ 108 := n108 kq _ hgq
    simp [k19, Env.v_ini, wD, clsD, qsD, intsD, cells_a, cells_map, one_map, one_s, r63, ← hH, g2, c64, r1, o1, o2, ev_loop]
    refine Res.endsAfter (lp_rule 10000000000000 (OwI true Q CL 108 kq d1 _) _ (ow_round true Q CL 108 kq d1 _ hWQ (by omega)) Q.length m _ (by omega) ⟨_, _, 0, [], (cs.drop (Q.length * 2)), rfl, by omega, by simp, by simp, by simp, by simp, by simp, by simp [g41', nilD], by simp <;> omega, by decide, by simp, by simp; omega, hc.keep (by simp) (fun k cs hk hg => by simp [n108 k _ hg, hg]), fun _ => rfl, fun _ => by simp [n108q, hgq, ← hcs], fun _ => by simp; omega, by simp [All2], fun e => (by cases e), ?_⟩) (fun y s ⟨hy, o⟩ => wo_end hy o)
    repeat' first | exact f1 | apply Heap.Fr.bump | apply Heap.Fr.set
    all_goals first | omega | (simp <;> omega)
end Go.Proofs.YtlfknfknlcgfcaaGreatDoor
