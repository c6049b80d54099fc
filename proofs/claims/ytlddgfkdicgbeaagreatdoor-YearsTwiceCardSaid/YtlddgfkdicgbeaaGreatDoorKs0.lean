/- The library's sort of a slice of structs by a comparing function: what differs by the struct. -/
import Derived.Test.YtlddgfkdicgbeaaGreatDoorPg
import Derived.Test.YtlddgfkdicgbeaaGreatDoorEmRuns
import Derived.Test.YtlddgfkdicgbeaaGreatDoorEmBits
import Derived.Test.YtlddgfkdicgbeaaGreatDoorEmBits
import Derived.Sort.AssemblyPlain
namespace Go.Proofs.YtlddgfkdicgbeaaGreatDoor
open Go Go.Em
set_option maxRecDepth 100000
abbrev EE := Runs.En
def eC (e : EE) : List D := [D.int e.y, D.int e.f, D.int e.s]
abbrev eD (e : EE) : D := .agg (eC e)
abbrev cF : D := .fn (.func 59) [] []
def cz (a b : EE) : Int := if a.y < b.y then -1 else if a.y > b.y then 1 else 0
def lt (a b : EE) : Bool := decide (a.y < b.y)
theorem lt_cz (a b : EE) : decide (cz a b < 0) = lt a b := by
  unfold cz lt
  by_cases h : a.y < b.y
  · rw [if_pos h]; simp [h]
  · rw [if_neg h]
    by_cases h2 : a.y > b.y
    · rw [if_pos h2]; simp [h]
    · rw [if_neg h2]; simp [h]
@[simp] theorem eC_len (e : EE) : (eC e).length = 3 := rfl
@[simp] theorem eC_one (e : EE) : (eC e).all D.one = true := rfl
@[simp] theorem eC_canon (e : EE) : D.canonL (eC e) = true := rfl
@[simp] theorem eC_cells (e : EE) : D.cells (.agg (eC e)) = eC e := rfl
def dV (c : Cfg) (R : Rc) (pn : Bool) (args : List D) (h : Heap) (y : D) : Option (D × Heap) := match y with
  | .fn (.func f) fs cs => if c.pg.sh f = true then none else match each (frz h depth) ((fs ++ args) ++ cs) with
    | some (bs, ks) => match pureA R f ((fs ++ args) ++ cs) bs with
      | some o => if ((ks.isEmpty || o.d.flat) && (o.isPan == pn)) = true then some (o.d, h) else none
      | none => none
    | none => none
  | _ => none
@[simp] theorem dcore_v (c : Cfg) (R : Rc) (base : Nat) (d : Option Nat) (gd : Bool) (y : X) (args : List X) (wt : Nat) (pn : Bool) (e : List D) (h : Heap) :
    dcore c R base ⟨⟨none, d, .inr (.val gd y args)⟩, some [], [], wt, pn⟩ e h = dV c R pn (args.map (rd c.pg.gl e)) h (rd c.pg.gl e y) := by
  have hk : h.kill (hids base e []) = h := by rw [hids_nil, kill_nil]
  unfold dcore dV
  simp only [G.want, hk]
  rfl
def dG (c : Cfg) (R : Rc) (pn : Bool) (args : List D) (h : Heap) (y : D) (gd : Bool) (w : Option Bool) : Option (D × Heap) := match w with
  | some true => dV c R pn args h y
  | some false => if (if gd = true then known c y else true) = true then some (.tup [], h) else none
  | none => none
@[simp] theorem dG_true (c : Cfg) (R : Rc) (pn : Bool) (args : List D) (h : Heap) (y : D) (gd : Bool) : dG c R pn args h y gd (some true) = dV c R pn args h y := rfl
@[simp] theorem dG_false (c : Cfg) (R : Rc) (pn : Bool) (args : List D) (h : Heap) (y : D) : dG c R pn args h y true (some false) = if known c y = true then some (.tup [], h) else none := rfl
@[simp] theorem dcore_gv (c : Cfg) (R : Rc) (base : Nat) (j : Nat) (w : Bool) (d : Option Nat) (gd : Bool) (y : X) (args : List X) (wt : Nat) (pn : Bool) (e : List D) (h : Heap) :
    dcore c R base ⟨⟨some (j, w), d, .inr (.val gd y args)⟩, some [], [], wt, pn⟩ e h = dG c R pn (args.map (rd c.pg.gl e)) h (rd c.pg.gl e y) gd (wantV w (e.getD j .junk)) := by
  have hk : h.kill (hids base e []) = h := by rw [hids_nil, kill_nil]
  unfold dcore dG dV
  simp only [want_some, hk]
  cases wantV w (e.getD j .junk) with
  | none => rfl
  | some b =>
    cases b with
    | true => rfl
    | false =>
      cases gd with
      | true => simp only [quiet_gval, if_true]
      | false => simp only [quiet_val, if_true, Bool.false_eq_true, if_false]
@[simp] theorem cF_code : (pg.code 59).isSome = true := rfl
theorem dV_of {c : Cfg} {R : Rc} {f : FuncId} {a : D} {l : List D} {o : D} (hs : c.pg.sh f = false) (ha : D.canonL (a :: l) = true) (x : pureCall R f (a :: l) = some (.ret o)) (h : Heap) : dV c R false (a :: l) h (.fn (.func f) [] []) = some (o, h) := by
  have he : each (frz h depth) (a :: l) = some (a :: l, []) := each_canon h 23 _ ha
  unfold dV
  simp only [hs, List.nil_append, List.append_nil, he, pureA_cons, pureS, orS, x, List.isEmpty_nil, Bool.true_or, Bool.true_and, Out.isPan, Out.d, beq_self_eq_true, if_true, Bool.false_eq_true, if_false]
theorem qnan_run (a : Int) {n : Nat} (hn : 1 ≤ n) : pureCall (rc pg n) 82 [D.int a] = some (.ret (D.bool false)) := by
  obtain ⟨m, rfl, e⟩ := body (pg := pg) (f := 82) (args := [D.int a]) (show 0 < n by omega) rfl rfl
  rw [e]
  have h : (a != a) = false := by simp
  simp [-bne_eq_false_iff_eq, k82, Env.v_ini]
theorem cmpi_run (a b : Int) {n : Nat} (hn : 2 ≤ n) : pureCall (rc pg n) 60 [D.int a, D.int b] = some (.ret (D.int (if a < b then -1 else if a > b then 1 else 0))) := by
  obtain ⟨m, rfl, e⟩ := body (pg := pg) (f := 60) (args := [D.int a, D.int b]) (show 0 < n by omega) rfl rfl
  rw [e]
  have c := fun h => call_of (h := h) (pg := pg) (f := 82) rfl (by simp) (qnan_run a (n := m) (by omega))
  have c' := fun h => call_of (h := h) (pg := pg) (f := 82) rfl (by simp) (qnan_run b (n := m) (by omega))
  by_cases hl : a < b
  · simp [k60, Env.v_ini, c, c', hl]
  · by_cases hg : a > b
    · simp [k60, Env.v_ini, c, c', hl, hg]
    · simp [k60, Env.v_ini, c, c', hl, hg]
theorem cz_run (a b : EE) {n : Nat} (hn : 3 ≤ n) : pureCall (rc pg n) 59 [eD a, eD b] = some (.ret (D.int (cz a b))) := by
  obtain ⟨m, rfl, e⟩ := body (pg := pg) (f := 59) (args := [eD a, eD b]) (show 0 < n by omega) rfl rfl
  rw [e]
  have c := fun h => call_of (h := h) (pg := pg) (f := 60) rfl rfl (cmpi_run a.y b.y (n := m) (by omega))
  simp only [eD, eC]
  simp [k59, Env.v_ini, D.cells, D.one, c, cz]
theorem lss_c {u v : EE} {b : Bool} {n : Nat} (hn : 3 ≤ n) (h : lt u v = b) : ∃ z : Int, (∀ N h, dV ⟨pg, N, none⟩ (rc pg n) false [eD u, eD v] h cF = some (D.int z, h)) ∧ decide (z < 0) = b :=
  ⟨cz u v, fun N h => dV_of (c := ⟨pg, N, none⟩) (f := 59) rfl rfl (cz_run u v hn) h, by rw [lt_cz, h]⟩
theorem swo_lt : Go.Sort.SWO lt where
  irrefl a := by simp [lt]
  trans a b c h1 h2 := by simp [lt] at *; omega
  ntrans a b c h1 h2 := by simp [lt] at *; omega
theorem call_sh {pg : Pg} {R : Rc} {f : FuncId} {args : List D} {h h' : Heap} {o : Out} (hs : pg.sh f = true) (x : R.fn f args h = some (o, h')) : call pg R f args h = some (o, h') := by
  simp [call, hs, x]
theorem call_frzk {pg : Pg} {R : Rc} {f : FuncId} {a : D} {args bs : List D} {ks : List Nat} {h : Heap} {o : Out} (hs : pg.sh f = false) (ha : each (Go.Em.frz h depth) (a :: args) = some (bs, ks)) (x : pureCall R f bs = some o) : ∃ h', call pg R f (a :: args) h = some (o, h') := by
  have e : call pg R f (a :: args) h = some (o, if (ks.isEmpty || o.d.flat) = true then h else h.cool ks) := by
    simp only [call, hs, ha, pureA, pureS, x, orS, Option.map_some, Bool.false_eq_true, if_false]
  exact ⟨_, e⟩
end Go.Proofs.YtlddgfkdicgbeaaGreatDoor
/- The library's sort of structs, by its Lean model: exchanges; the insertion sort. -/
namespace Go.Proofs.YtlddgfkdicgbeaaGreatDoor
open Go Go.Em
set_option maxRecDepth 100000
def eCs (d : Array EE) : List D := d.toList.flatMap eC
structure SD (kb : Nat) (d : Array EE) (h0 h : Heap) : Prop where
  g : h.get kb = some (.cells 74 (eCs d))
  u : ∀ q, q ≠ kb → q < h0.next → h.raw q = h0.raw q
  n : h0.next ≤ h.next
  k : kb < h0.next
  fr : h.Fr
theorem SD.bump {kb : Nat} {d : Array EE} {h0 h : Heap} (s : SD kb d h0 h) (z : Nat) : SD kb d h0 (h.bump z) :=
  ⟨by simp [s.g], fun q h1 h2 => by simp [s.u q h1 h2], by have := s.n; simp; omega, s.k, s.fr.bump z⟩
theorem SD.put {kb : Nat} {d : Array EE} {h0 h : Heap} (s : SD kb d h0 h) (d' : Array EE) : SD kb d' h0 (h.set kb (some (.cells 74 (eCs d')))) :=
  ⟨by simp, fun q h1 h2 => by simp [h1, s.u q h1 h2], by have := s.n; simp; omega, s.k, s.fr.set _ (by have := s.n; have := s.k; omega)⟩
theorem SD.setL {kb : Nat} {d : Array EE} {h0 h : Heap} (s : SD kb d h0 h) {L : List D} {d' : Array EE} (e : L = eCs d') : SD kb d' h0 (h.set kb (some (.cells 74 L))) := e ▸ s.put d'
theorem SD.trans {kb : Nat} {d d' : Array EE} {h0 h1 h2 : Heap} (s : SD kb d h0 h1) (t : SD kb d' h1 h2) : SD kb d' h0 h2 :=
  ⟨t.g, fun q a b => by rw [t.u q a (by have := s.n; omega), s.u q a b], by have := s.n; have := t.n; omega, s.k, t.fr⟩
theorem SD.refl {kb : Nat} {d : Array EE} {h : Heap} (hg : h.get kb = some (.cells 74 (eCs d))) (hk : kb < h.next) (hf : h.Fr) : SD kb d h h := ⟨hg, fun _ _ _ => rfl, Nat.le_refl _, hk, hf⟩
theorem SD.two {kb : Nat} {d : Array EE} {h0 h : Heap} (s : SD kb d h0 h) {L L' : List D} {d' : Array EE} {i : Nat} {v : EE} (e : L = eCs (d.setIfInBounds i v)) (e' : L' = eCs d') : SD kb d' h0 ((h.set kb (some (.cells 74 L))).set kb (some (.cells 74 L'))) := (s.setL e).setL e'
theorem fm_len : ∀ l : List EE, (l.flatMap eC).length = l.length * 3
  | [] => rfl
  | e :: l => by rw [List.flatMap_cons, List.length_append, fm_len l, eC_len, List.length_cons]; omega
theorem fm_drop : ∀ (l : List EE) (i : Nat), (l.flatMap eC).drop (i * 3) = (l.drop i).flatMap eC
  | l, 0 => by rw [Nat.zero_mul]; rfl
  | [], i + 1 => by simp
  | e :: l, i + 1 => by
    rw [List.drop_succ_cons, List.flatMap_cons, show (i + 1) * 3 = (eC e).length + i * 3 by rw [eC_len]; omega, List.drop_length_add_append]
    exact fm_drop l i
theorem fm_take : ∀ (l : List EE) (i : Nat), (l.flatMap eC).take (i * 3) = (l.take i).flatMap eC
  | l, 0 => by rw [Nat.zero_mul]; rfl
  | [], i + 1 => by simp
  | e :: l, i + 1 => by
    rw [List.take_succ_cons, List.flatMap_cons, List.flatMap_cons, show (i + 1) * 3 = (eC e).length + i * 3 by rw [eC_len]; omega, List.take_length_add_append, fm_take l i]
theorem eCs_len (d : Array EE) : (eCs d).length = d.size * 3 := by unfold eCs; rw [fm_len]; simp
theorem qdl_get {d : Array EE} {i : Nat} (hi : i < d.size) : ((eCs d).drop (i * 3)).take 3 = eC d[i]! := by
  unfold eCs
  rw [fm_drop, List.drop_eq_getElem_cons (by simpa using hi), List.flatMap_cons, List.take_append_of_le_length (by rw [eC_len]; exact Nat.le_refl _), List.take_of_length_le (by rw [eC_len]; exact Nat.le_refl _)]
  simp [getElem!_pos d i hi]
theorem dl_put {d : Array EE} {i : Nat} (hi : i < d.size) (v : EE) : (eCs d).take (i * 3) ++ (eC v ++ (eCs d).drop (i * 3 + 3)) = eCs (d.setIfInBounds i v) := by
  unfold eCs
  rw [show i * 3 + 3 = (i + 1) * 3 by omega, fm_take, fm_drop, Array.toList_setIfInBounds, List.set_eq_take_append_cons_drop, if_pos (by simpa using hi), List.flatMap_append, List.flatMap_cons]
theorem sz_set (d : Array EE) (i : Nat) (v : EE) : (d.setIfInBounds i v).size = d.size := by simp
theorem sz_swp (d : Array EE) (i j : Nat) : (Go.Sort.swp d i j).size = d.size := by simp [Go.Sort.swp]
theorem swp_facts {d : Array EE} {i j : Nat} (hi : i < d.size) (hj : j < d.size) : ∃ (C C1 C2 : List D) (vi vj : EE), C = eCs d ∧ i * 3 + 3 ≤ C.length ∧ j * 3 + 3 ≤ C1.length ∧ i * 3 + 3 ≤ C1.length ∧ (C.drop (i * 3)).take 3 = eC vi ∧ (C.drop (j * 3)).take 3 = eC vj ∧ i * 3 + 3 ≤ C.length ∧ j * 3 + 3 ≤ C.length ∧ C.take (i * 3) ++ (eC vj ++ C.drop (i * 3 + 3)) = C1 ∧ C1.take (j * 3) ++ (eC vi ++ C1.drop (j * 3 + 3)) = C2 ∧ C1 = eCs (d.setIfInBounds i vj) ∧ C2 = eCs (Go.Sort.swp d i j) ∧ d[i]! = vi ∧ d[j]! = vj := by
  have hj' : j < (d.setIfInBounds i d[j]!).size := by rw [sz_set]; exact hj
  refine ⟨eCs d, eCs (d.setIfInBounds i d[j]!), eCs (Go.Sort.swp d i j), d[i]!, d[j]!, rfl, ?_, ?_, ?_, qdl_get hi, qdl_get hj, ?_, ?_, dl_put hi d[j]!, ?_, rfl, rfl, rfl, rfl⟩
  · rw [eCs_len]; omega
  · rw [eCs_len, sz_set]; omega
  · rw [eCs_len, sz_set]; omega
  · rw [eCs_len]; omega
  · rw [eCs_len]; omega
  · rw [dl_put hj']; rfl
theorem get_fact {d : Array EE} {i : Nat} (hi : i < d.size) {C : List D} (hC : C = eCs d) : ∃ v : EE, (C.drop (i * 3)).take 3 = eC v ∧ i * 3 + 3 ≤ C.length ∧ d[i]! = v := by
  subst hC; exact ⟨d[i]!, qdl_get hi, by rw [eCs_len]; omega, rfl⟩
theorem Res.fin {o : Option (Ex × St)} {id : Nat} {R : Rc} {rs : List (ResultVar × Bool × Nat)} {P : Ex → St → Prop} {r : Out} {C : Heap → Prop} (h : Res o P)
    (hk : ∀ x s, P x s → ∃ h', endH R rs (blockK id (some (x, s))) = some (r, h') ∧ C h') : ∃ h', endH R rs (blockK id o) = some (r, h') ∧ C h' := by
  obtain ⟨x, s, rfl, p⟩ := h; exact hk x s p
def qII (T : Array EE) (a : Nat) (kb N : Nat) (cap : Option Nat) (x0 : Env 53) (h0 : Heap) (k : Nat) (s : St) : Prop := ∃ (x : Env 53) (h : Heap) (d : Array EE), s = ⟨x.l, h, []⟩ ∧ (∀ q, q < 9 → x.v q = x0.v q) ∧ (x.v 0 = .slr kb 0 N 3 cap ∧ x.v 3 = cF) ∧ x.v 1 = D.int a ∧ x.v 9 = D.int k ∧ k < N ∧ d.size = N ∧ SD kb d h0 h ∧ Go.Sort.insInner lt a k d = T
def qIQ (T : Array EE) (kb N : Nat) (x0 : Env 53) (h0 : Heap) (x : Ex) (s : St) : Prop := x = .exit 2 ∧ ∃ (x : Env 53) (h : Heap), s = ⟨x.l, h, []⟩ ∧ (∀ q, q < 9 → x.v q = x0.v q) ∧ T.size = N ∧ SD kb T h0 h
theorem ins_step (d : Array EE) (a j : Nat) : Go.Sort.insInner lt a (j + 1) d = if (j + 1 > a && lt d[j + 1]! d[j]!) = true then Go.Sort.insInner lt a j (Go.Sort.swp d (j + 1) j) else d := rfl
set_option maxHeartbeats 8000000 in
theorem ins_round (T : Array EE) (a kb N : Nat) (hN : N ≤ 10000000) (cap : Option Nat) (x0 : Env 53) (h0 : Heap) : ∀ n, 3 ≤ n → ∀ k s, qII T a kb N cap x0 h0 k s → Res (k107l0.ev ⟨pg, 53, none⟩ (rc pg n) s) (Rnd (qII T a kb N cap x0 h0) (qIQ T kb N x0 h0) k) := by
  rintro n hn k s ⟨x, h, d, rfl, sm, ⟨v0, vc⟩, v1, v7, hk, hd, sd, hT⟩
  have g := sd.g
  have ne : ∀ {q : Nat}, q < 9 → ∀ t, 9 ≤ t → (t = q) = False := fun hq t ht => by simp; omega
  cases k with
  | zero =>
    have hT' : d = T := by rw [← hT]; rfl
    have q1' : ¬ ((a : Int) < 0) := by omega
    simp [k107l0, v1, v7, q1']
    exact ⟨rfl, _, _, rfl, fun q hq => by simp [ne hq, sm q hq], hT' ▸ hd, hT' ▸ sd.bump _⟩
  | succ j =>
    by_cases hja : j + 1 > a
    · have q1' : ((a : Int) < (j : Int) + 1) := by omega
      have hj : j < d.size := by omega
      have hj1 : j + 1 < d.size := by omega
      have w1 : IntKind.i64.wrap (j : Int) = (j : Int) := wrap_i64 (by omega) (by omega)
      have l1 : j + 1 ≤ N := by omega
      have l2 : j + 1 + 1 ≤ N := by omega
      have b1 : (0 : Int) ≤ (j : Int) + 1 := by omega
      have b2 : (j : Int) + 1 < (N : Int) := by omega
      have b3 : j < N := by omega
      rw [ins_step] at hT
      obtain ⟨C, C1, C2, vi, vj, hC, hl, hl1, hl2, f2, f1, e2, e1, p1, p2, c1, c2, y2, y1⟩ := swp_facts hj1 hj
      rw [y1, y2] at hT
      rw [← hC] at g
      cases hlt : lt vi vj with
      | true =>
        rw [if_pos (by simp [hja, hlt])] at hT
        obtain ⟨zr, r, rr⟩ := lss_c (n := n) hn hlt
        simp [k107l0, v0, vc, v1, v7, q1', w1, D.cells, g, hl, hl1, e1, f1, f2, p1, p2, b1, b2, b3, r, rr]
        exact ⟨_, _, _, rfl, fun q hq => by simp [ne hq, sm q hq], ⟨by simp [v0], by simp [vc]⟩, by simp [v1], by simp, by omega, by rw [sz_swp, hd], ((((sd.bump _).bump _).setL c1).setL c2).bump _, hT⟩
      | false =>
        rw [if_neg (by simp [hlt])] at hT
        subst hT
        obtain ⟨zr, r, rr⟩ := lss_c (n := n) hn hlt
        simp [k107l0, v0, vc, v1, v7, q1', w1, g, e1, f1, e2, f2, b1, b2, b3, r, rr]
        exact ⟨rfl, _, _, rfl, fun q hq => by simp [ne hq, sm q hq], hd, sd.bump _⟩
    · have q1 : ¬ ((j : Int) + 1 > (a : Int)) := by omega
      rw [ins_step, if_neg (by simp [hja])] at hT
      subst hT
      simp [k107l0, v1, v7, q1]
      exact ⟨rfl, _, _, rfl, fun q hq => by simp [ne hq, sm q hq], hd, sd.bump _⟩
end Go.Proofs.YtlddgfkdicgbeaaGreatDoor
/- The library's sort: the insertion sort, the reversal of a range. -/

namespace Go.Proofs.YtlddgfkdicgbeaaGreatDoor
open Go Go.Em
set_option maxRecDepth 100000
theorem Res.qb {L : Option (Ex × St)} {i1 i2 : Nat} {F : St → Option (Ex × St)} {P Q : Ex → St → Prop} (h : Res L P) (hk : ∀ x s, P x s → Res (andThen (blockK i1 (blockK i2 (some (x, s)))) F) Q) : Res (andThen (blockK i1 (blockK i2 L)) F) Q := by
  obtain ⟨x, s, rfl, p⟩ := h; exact hk x s p
def qIO (T : Array EE) (a b kb N : Nat) (cap : Option Nat) (h0 : Heap) (k : Nat) (s : St) : Prop := ∃ (x : Env 53) (h : Heap) (d : Array EE) (i : Nat), s = ⟨x.l, h, []⟩ ∧ i + k = max b i ∧ (x.v 0 = .slr kb 0 N 3 cap ∧ x.v 3 = cF) ∧ x.v 1 = D.int a ∧ x.v 2 = D.int b ∧ x.v 8 = D.int i ∧ d.size = N ∧ SD kb d h0 h ∧ Go.Sort.insOuter lt a b i d = T
def qSQ (T : Array EE) (kb N : Nat) (h0 : Heap) (s : St) : Prop := ∃ (M : Nat) (x : Env M) (h : Heap), s = ⟨x.l, h, []⟩ ∧ T.size = N ∧ SD kb T h0 h
theorem insOuter_lt {a b i : Nat} {d : Array EE} (h : i < b) : Go.Sort.insOuter lt a b i d = Go.Sort.insOuter lt a b (i + 1) (Go.Sort.insInner lt a i d) := by
  rw [Go.Sort.insOuter, if_pos h]
theorem insOuter_ge {a b i : Nat} {d : Array EE} (h : ¬ i < b) : Go.Sort.insOuter lt a b i d = d := by
  rw [Go.Sort.insOuter, if_neg h]
set_option maxHeartbeats 8000000 in
theorem inso_round (T : Array EE) (a b kb N : Nat) (hN : N ≤ 10000000) (hb : b ≤ N) (cap : Option Nat) (h0 : Heap) : ∀ n, N + 10 ≤ n → ∀ k s, qIO T a b kb N cap h0 k s → Res (k107l1.ev ⟨pg, 53, none⟩ (rc pg n) s) (Rnd (qIO T a b kb N cap h0) (fun x s => x = .exit 0 ∧ qSQ T kb N h0 s) k) := by
  rintro n hn k s ⟨x, h, d, i, rfl, hk, ⟨v0, vc⟩, v1, v2, v6, hd, sd, hT⟩
  by_cases hi : i < b
  · rw [insOuter_lt hi] at hT
    have w1 : IntKind.i64.wrap ((i : Int) + 1) = (i : Int) + 1 := wrap_i64 (by omega) (by omega)
    simp [k107l1, v2, v6, hi, ev_loop]
    obtain ⟨x0, hx0⟩ : ∃ x0 : Env 53, x0 = ((((x.upd 12 (D.int i)).upd 13 (D.int b)).upd 14 (D.bool true)).upd 17 (D.int i)).upd 9 (D.int i) := ⟨_, rfl⟩
    refine Res.qb (lp_rule 3 (qII (Go.Sort.insInner lt a i d) a kb N cap x0 h0) _ (ins_round _ a kb N hN cap x0 h0) i n _ (by omega) ⟨x0, _, d, by rw [hx0], fun _ _ => rfl, ⟨by simp [hx0, v0], by simp [hx0, vc]⟩, by simp [hx0, v1], by simp [hx0], by omega, hd, ?_, rfl⟩) ?_
    · first | exact sd | exact sd.bump _ | exact (sd.bump _).bump _
    · rintro x1 s1 ⟨rfl, y, h', rfl, sm, hd', sd'⟩
      have y0 := sm 0 (by omega)
      have yc := sm 3 (by omega)
      have y1 := sm 1 (by omega)
      have y2 := sm 2 (by omega)
      have y6 := sm 8 (by omega)
      simp [hx0, v0, vc, v1, v2, v6] at y0 yc y1 y2 y6
      simp [y6, w1]
      exact ⟨k - 1, by omega, _, _, _, i + 1, rfl, by omega, ⟨by simp [y0], by simp [yc]⟩, by simp [y1], by simp [y2], by simp, hd', by first | exact sd' | exact sd'.bump _ | exact (sd'.bump _).bump _, hT⟩
  · rw [insOuter_ge hi] at hT
    subst hT
    simp [k107l1, v2, v6, hi]
    exact ⟨_, _, _, rfl, hd, sd.bump _⟩
set_option maxHeartbeats 8000000 in
theorem insort_sh {kb : Nat} {d : Array EE} {h : Heap} (hg : h.get kb = some (.cells 74 (eCs d))) (hk : kb < h.next) (hf : h.Fr) {N : Nat} (hd : d.size = N) (hN : N ≤ 10000000) (cap : Option Nat) {a b : Nat} (hab : a ≤ b) (hb : b ≤ N) {n : Nat} (hn : 2 * N + 20 ≤ n) :
    ∃ h', (rc pg n).fn 107 [.slr kb 0 N 3 cap, D.int a, D.int b, cF] h = some (.ret (.tup []), h') ∧ SD kb (Go.Sort.insertionSort lt d a b) h h' ∧ (Go.Sort.insertionSort lt d a b).size = N := by
  obtain ⟨m, rfl, e⟩ := fn_body (pg := pg) (f := 107) (args := [.slr kb 0 N 3 cap, D.int a, D.int b, cF]) (h := h) (show 0 < n by omega) rfl rfl
  rw [e]
  have w1 : IntKind.i64.wrap ((a : Int) + 1) = (a : Int) + 1 := wrap_i64 (by omega) (by omega)
  have sd := SD.refl hg hk hf
  simp [k107, Env.v_ini, w1, ev_loop]
  refine Res.fin (lp_rule (N + 10) (qIO (Go.Sort.insertionSort lt d a b) a b kb N cap h) _ (inso_round _ a b kb N hN hb cap h) (b - (a + 1)) m _ (by omega) ⟨_, _, d, a + 1, rfl, by omega, ⟨by simp [Env.v_ini], by simp [Env.v_ini]⟩, by simp [Env.v_ini], by simp [Env.v_ini], by simp, hd, by first | exact sd | exact sd.bump _, rfl⟩) ?_
  rintro x s ⟨rfl, M, y, h', rfl, hd', sd'⟩
  simp
  exact ⟨sd', hd'⟩
/-! ### The reversal of a range -/
def qRO (T : Array EE) (kb N : Nat) (cap : Option Nat) (h0 : Heap) (k : Nat) (s : St) : Prop := ∃ (x : Env 34) (h : Heap) (d : Array EE) (i j : Nat), s = ⟨x.l, h, []⟩ ∧ j ≤ i + k ∧ (x.v 0 = .slr kb 0 N 3 cap ∧ x.v 3 = cF) ∧ x.v 8 = D.int i ∧ x.v 9 = D.int j ∧ j < N ∧ d.size = N ∧ SD kb d h0 h ∧ Go.Sort.reverseLoop i j d = T
theorem rev_lt {i j : Nat} {d : Array EE} (h : i < j) : Go.Sort.reverseLoop i j d = Go.Sort.reverseLoop (i + 1) (j - 1) (Go.Sort.swp d i j) := by
  rw [Go.Sort.reverseLoop, if_pos h]
theorem rev_ge {i j : Nat} {d : Array EE} (h : ¬ i < j) : Go.Sort.reverseLoop i j d = d := by
  rw [Go.Sort.reverseLoop, if_neg h]
set_option maxHeartbeats 8000000 in
theorem rev_round (T : Array EE) (kb N : Nat) (hN : N ≤ 10000000) (cap : Option Nat) (h0 : Heap) : ∀ n, 3 ≤ n → ∀ k s, qRO T kb N cap h0 k s → Res (k111l0.ev ⟨pg, 34, none⟩ (rc pg n) s) (Rnd (qRO T kb N cap h0) (fun x s => x = .exit 0 ∧ qSQ T kb N h0 s) k) := by
  rintro n hn k s ⟨x, h, d, i, j, rfl, hk, ⟨v0, vc⟩, v6, v7, hj, hd, sd, hT⟩
  have g := sd.g
  by_cases hi : i < j
  · rw [rev_lt hi] at hT
    have hiN : i < d.size := by omega
    have hjN : j < d.size := by omega
    obtain ⟨C, C1, C2, vi, vj, hC, hl, hl1, hl2, f1, f2, e1, e2, p1, p2, c1, c2, y1, y2⟩ := swp_facts hiN hjN
    rw [← hC] at g
    have w1 : IntKind.i64.wrap ((i : Int) + 1) = (i : Int) + 1 := wrap_i64 (by omega) (by omega)
    have w2 : IntKind.i64.wrap ((j : Int) - 1) = ((j - 1 : Nat) : Int) := by rw [wrap_i64 (by omega) (by omega)]; omega
    have l1 : i + 1 ≤ N := by omega
    have l2 : j + 1 ≤ N := by omega
    have l3 : i < N := by omega
    simp [k111l0, v0, v6, v7, hi, w1, w2, D.cells, g, hl, hl1, f1, e2, f2, p1, p2, l3, hj]
    exact ⟨k - 1, by omega, _, _, _, i + 1, j - 1, rfl, by omega, ⟨by simp [v0], by simp [vc]⟩, by simp, by simp, by omega, by rw [Go.Sort.swp]; simp [hd], by first | exact (((sd.bump _).setL c1).setL c2).bump _ | exact ((((sd.bump _).bump _).setL c1).setL c2).bump _ | exact ((((sd.bump _).bump _).setL c1).setL c2) | exact (((((sd.bump _).bump _).setL c1).setL c2).bump _).bump _, hT⟩
  · rw [rev_ge hi] at hT
    subst hT
    simp [k111l0, v6, v7, hi]
    exact ⟨_, _, _, rfl, hd, sd.bump _⟩
set_option maxHeartbeats 8000000 in
theorem rev_sh {kb : Nat} {d : Array EE} {h : Heap} (hg : h.get kb = some (.cells 74 (eCs d))) (hk : kb < h.next) (hf : h.Fr) {N : Nat} (hd : d.size = N) (hN : N ≤ 10000000) (cap : Option Nat) {a b : Nat} (hab : a < b) (hb : b ≤ N) {n : Nat} (hn : N + 20 ≤ n) :
    ∃ h', (rc pg n).fn 111 [.slr kb 0 N 3 cap, D.int a, D.int b, cF] h = some (.ret (.tup []), h') ∧ SD kb (Go.Sort.reverseRange d a b) h h' ∧ (Go.Sort.reverseRange d a b).size = N := by
  obtain ⟨m, rfl, e⟩ := fn_body (pg := pg) (f := 111) (args := [.slr kb 0 N 3 cap, D.int a, D.int b, cF]) (h := h) (show 0 < n by omega) rfl rfl
  rw [e]
  have w1 : IntKind.i64.wrap ((b : Int) - 1) = ((b - 1 : Nat) : Int) := by rw [wrap_i64 (by omega) (by omega)]; omega
  have sd := SD.refl hg hk hf
  simp [k111, Env.v_ini, w1, ev_loop]
  refine Res.fin (lp_rule 3 (qRO (Go.Sort.reverseRange d a b) kb N cap h) _ (rev_round _ kb N hN cap h) (b - 1 - a) m _ (by omega) ⟨_, _, d, a, b - 1, rfl, by omega, ⟨by simp [Env.v_ini], by simp [Env.v_ini]⟩, by simp, by simp, by omega, hd, by first | exact sd | exact sd.bump _ | exact (sd.bump _).bump _, rfl⟩) ?_
  rintro x s ⟨rfl, M, y, h', rfl, hd', sd'⟩
  simp
  exact ⟨sd', hd'⟩
end Go.Proofs.YtlddgfkdicgbeaaGreatDoor
/- The library's sort: sifting down, the heap sort. -/
namespace Go.Proofs.YtlddgfkdicgbeaaGreatDoor
open Go Go.Em
set_option maxRecDepth 100000
theorem wn {z : Int} {m : Nat} (h : z = m) (hm : m ≤ 1000000000) : IntKind.i64.wrap z = (m : Int) := by rw [h, wrap_i64 (by omega) (by omega)]
theorem sift_ge {hi first root : Nat} {d : Array EE} (h : hi ≤ 2 * root + 1) : Go.Sort.siftDown lt hi first root d = d := by
  rw [Go.Sort.siftDown, dif_pos h]
theorem sift_eq {hi first root c p q : Nat} {d : Array EE} (hc : c = 2 * root + 1) (h : c < hi) (hp : p = first + root) (hq : q = first + c) : Go.Sort.siftDown lt hi first root d = if (decide (c + 1 < hi) && lt d[q]! d[q + 1]!) = true then (if (!lt d[p]! d[q + 1]!) = true then d else Go.Sort.siftDown lt hi first (c + 1) (Go.Sort.swp d p (q + 1))) else if (!lt d[p]! d[q]!) = true then d else Go.Sort.siftDown lt hi first c (Go.Sort.swp d p q) := by
  subst hc hp hq
  rw [Go.Sort.siftDown, dif_neg (by omega)]
  by_cases h2 : 2 * root + 1 + 1 < hi
  · have h3 : 2 * root + 2 < hi := h2
    simp only [h2, dite_true]
    rfl
  · simp only [h2]
    rfl

def qSO (T : Array EE) (hi first kb N : Nat) (cap : Option Nat) (h0 : Heap) (k : Nat) (s : St) : Prop := ∃ (x : Env 82) (h : Heap) (d : Array EE) (root : Nat), s = ⟨x.l, h, []⟩ ∧ hi ≤ root + k ∧ (x.v 0 = .slr kb 0 N 3 cap ∧ x.v 4 = cF) ∧ x.v 2 = D.int hi ∧ x.v 3 = D.int first ∧ x.v 10 = D.int root ∧ root ≤ N ∧ d.size = N ∧ SD kb d h0 h ∧ Go.Sort.siftDown lt hi first root d = T
set_option maxHeartbeats 16000000 in
theorem sift_round (T : Array EE) (hi first kb N : Nat) (hN : N ≤ 10000000) (hb : first + hi ≤ N) (cap : Option Nat) (h0 : Heap) : ∀ n, 3 ≤ n → ∀ k s, qSO T hi first kb N cap h0 k s → Res (k138l0.ev ⟨pg, 82, none⟩ (rc pg n) s) (Rnd (qSO T hi first kb N cap h0) (fun x s => (x = .exit 0 ∨ x = .ret) ∧ qSQ T kb N h0 s) k) := by
  rintro n hn k s ⟨x, h, d, root, rfl, hk, ⟨v0, vc⟩, v2, v3, v8, hr, hd, sd, hT⟩
  have g := sd.g
  obtain ⟨r2, hr2⟩ : ∃ r2, r2 = 2 * root := ⟨_, rfl⟩
  obtain ⟨c, hc⟩ : ∃ c, c = 2 * root + 1 := ⟨_, rfl⟩
  have w1 : IntKind.i64.wrap (2 * (root : Int)) = (r2 : Int) := wn (by omega) (by omega)
  have w2 : IntKind.i64.wrap ((r2 : Int) + 1) = (c : Int) := wn (by omega) (by omega)
  by_cases hch : c < hi
  · obtain ⟨p, hp⟩ : ∃ p, p = first + root := ⟨_, rfl⟩
    obtain ⟨q, hq⟩ : ∃ q, q = first + c := ⟨_, rfl⟩
    rw [sift_eq hc hch hp hq] at hT
    have hpN : p < d.size := by omega
    have hqN : q < d.size := by omega
    have nge : ¬ hi ≤ c := by omega
    have w3 : IntKind.i64.wrap ((c : Int) + 1) = ((c + 1 : Nat) : Int) := wn (by omega) (by omega)
    have w4 : IntKind.i64.wrap ((first : Int) + (c : Int)) = (q : Int) := wn (by omega) (by omega)
    have w5 : IntKind.i64.wrap ((q : Int) + 1) = ((q + 1 : Nat) : Int) := wn (by omega) (by omega)
    have w6 : IntKind.i64.wrap ((first : Int) + (root : Int)) = (p : Int) := wn (by omega) (by omega)
    have w7 : IntKind.i64.wrap ((first : Int) + ((c + 1 : Nat) : Int)) = ((q + 1 : Nat) : Int) := wn (by omega) (by omega)
    have l1 : p < N := by omega
    have l2 : q < N := by omega
    have l3 : p + 1 ≤ N := by omega
    have l4 : q + 1 ≤ N := by omega
    by_cases h2 : c + 1 < hi
    · have hq1 : q + 1 < d.size := by omega
      have l5 : q + 1 < N := by omega
      have l6 : q + 1 + 1 ≤ N := by omega
      obtain ⟨q1, hqq⟩ : ∃ q1, q1 = q + 1 := ⟨_, rfl⟩
      obtain ⟨c1, hcc⟩ : ∃ c1, c1 = c + 1 := ⟨_, rfl⟩
      rw [← hqq] at w5 w7 l5 l6 l4 hT hq1
      rw [← hcc] at w3 w7 h2 hT
      have l7 : q1 + 1 ≤ N := by omega
      have l8 : q + 1 ≤ N := by omega
      cases hlq : lt d[q]! d[q1]! with
      | true =>
        rw [if_pos (by simp [h2, hlq])] at hT
        obtain ⟨C, C1, C2, vp, vq1, hC, hl, hl1, hl2, f1, f2, e1, e2, p1, p2, c1', c2, y1, y2⟩ := swp_facts hpN hq1
        obtain ⟨vq, f3, e3, y3⟩ := get_fact hqN hC
        rw [← hC] at g
        rw [y1, y2] at hT
        rw [y2, y3] at hlq
        obtain ⟨zra, ra, rra⟩ := lss_c (n := n) hn hlq
        cases hlt : lt vp vq1 with
        | true =>
          obtain ⟨zr, r, rr⟩ := lss_c (n := n) hn hlt
          rw [if_neg (by simp [hlt])] at hT
          simp [k138l0, v0, vc, v2, v3, v8, w1, w2, w3, w4, w5, w6, w7, nge, h2, D.cells, g, hl, hl1, f1, e2, f2, e3, f3, p1, p2, l1, l2, l5, dcore_v, r, rr, ra, rra]
          exact ⟨k - 1, by omega, _, _, _, c1, rfl, by omega, ⟨by simp [v0], by simp [vc]⟩, by simp [v2], by simp [v3], by simp, by omega, by rw [sz_swp, hd], by repeat' first | exact sd | refine SD.bump ?_ _ | refine SD.two ?_ c1' c2, hT⟩
        | false =>
          obtain ⟨zr, r, rr⟩ := lss_c (n := n) hn hlt
          rw [if_pos (by simp [hlt])] at hT
          subst hT
          simp [k138l0, v0, vc, v2, v3, v8, w1, w2, w3, w4, w5, w6, w7, nge, h2, g, e1, f1, e2, f2, e3, f3, l1, l2, l5, dcore_v, r, rr, ra, rra]
          exact ⟨_, _, _, rfl, hd, by repeat' first | exact sd | refine SD.bump ?_ _⟩
      | false =>
        rw [if_neg (by simp [hlq])] at hT
        obtain ⟨C, C1, C2, vp, vq, hC, hl, hl1, hl2, f1, f2, e1, e2, p1, p2, c1', c2, y1, y2⟩ := swp_facts hpN hqN
        obtain ⟨vq1, f3, e3, y3⟩ := get_fact hq1 hC
        rw [← hC] at g
        rw [y1, y2] at hT
        rw [y2, y3] at hlq
        obtain ⟨zra, ra, rra⟩ := lss_c (n := n) hn hlq
        cases hlt : lt vp vq with
        | true =>
          obtain ⟨zr, r, rr⟩ := lss_c (n := n) hn hlt
          rw [if_neg (by simp [hlt])] at hT
          simp [k138l0, v0, vc, v2, v3, v8, w1, w2, w3, w4, w5, w6, nge, h2, D.cells, g, hl, hl1, f1, e2, f2, e3, f3, p1, p2, l1, l2, l5, dcore_v, r, rr, ra, rra]
          exact ⟨k - 1, by omega, _, _, _, c, rfl, by omega, ⟨by simp [v0], by simp [vc]⟩, by simp [v2], by simp [v3], by simp, by omega, by rw [sz_swp, hd], by repeat' first | exact sd | refine SD.bump ?_ _ | refine SD.two ?_ c1' c2, hT⟩
        | false =>
          obtain ⟨zr, r, rr⟩ := lss_c (n := n) hn hlt
          rw [if_pos (by simp [hlt])] at hT
          subst hT
          simp [k138l0, v0, vc, v2, v3, v8, w1, w2, w3, w4, w5, w6, nge, h2, g, e1, f1, e2, f2, e3, f3, l1, l2, l5, dcore_v, r, rr, ra, rra]
          exact ⟨_, _, _, rfl, hd, by repeat' first | exact sd | refine SD.bump ?_ _⟩
    · have h2' : ¬ (c + 1 < hi) := h2
      rw [if_neg (by simp [h2])] at hT
      obtain ⟨c1, hcc⟩ : ∃ c1, c1 = c + 1 := ⟨_, rfl⟩
      rw [← hcc] at w3 h2'
      obtain ⟨C, C1, C2, vp, vq, hC, hl, hl1, hl2, f1, f2, e1, e2, p1, p2, c1', c2, y1, y2⟩ := swp_facts hpN hqN
      rw [← hC] at g
      rw [y1, y2] at hT
      cases hlt : lt vp vq with
      | true =>
        obtain ⟨zr, r, rr⟩ := lss_c (n := n) hn hlt
        rw [if_neg (by simp [hlt])] at hT
        simp [k138l0, v0, vc, v2, v3, v8, w1, w2, w3, w4, w6, nge, h2', D.cells, g, hl, hl1, f1, e2, f2, p1, p2, l1, l2, dcore_v, r, rr]
        exact ⟨k - 1, by omega, _, _, _, c, rfl, by omega, ⟨by simp [v0], by simp [vc]⟩, by simp [v2], by simp [v3], by simp, by omega, by rw [sz_swp, hd], by repeat' first | exact sd | refine SD.bump ?_ _ | refine SD.two ?_ c1' c2, hT⟩
      | false =>
        obtain ⟨zr, r, rr⟩ := lss_c (n := n) hn hlt
        rw [if_pos (by simp [hlt])] at hT
        subst hT
        simp [k138l0, v0, vc, v2, v3, v8, w1, w2, w3, w4, w6, nge, h2', g, e1, f1, e2, f2, l1, l2, dcore_v, r, rr]
        exact ⟨_, _, _, rfl, hd, by repeat' first | exact sd | refine SD.bump ?_ _⟩
  · rw [sift_ge (by omega)] at hT
    subst hT
    have nge : hi ≤ c := by omega
    simp [k138l0, v2, v8, w1, w2, nge]
    exact ⟨_, _, _, rfl, hd, by repeat' first | exact sd | refine SD.bump ?_ _⟩
theorem swp_size (d : Array EE) (i j : Nat) {N : Nat} (hd : d.size = N) : (Go.Sort.swp d i j).size = N := by rw [sz_swp, hd]
theorem Res.fin2 {o : Option (Ex × St)} {id : Nat} {R : Rc} {rs : List (ResultVar × Bool × Nat)} {P : Ex → St → Prop} {r : Out} {C : Heap → Prop} (h : Res o P)
    (hk : ∀ x s, P x s → ∃ h', endH R rs (blockK id (some (x, s))) = some (r, h') ∧ C h') : ∃ h', endH R rs (blockK id o) = some (r, h') ∧ C h' := by
  obtain ⟨x, s, rfl, p⟩ := h; exact hk x s p
set_option maxHeartbeats 8000000 in
theorem sift_sh {kb : Nat} {d : Array EE} {h : Heap} (hg : h.get kb = some (.cells 74 (eCs d))) (hk : kb < h.next) (hf : h.Fr) {N : Nat} (hd : d.size = N) (hN : N ≤ 10000000) (cap : Option Nat) {lo hi first : Nat} (hlo : lo ≤ N) (hb : first + hi ≤ N) {n : Nat} (hn : N + 20 ≤ n) :
    ∃ h', (rc pg n).fn 138 [.slr kb 0 N 3 cap, D.int lo, D.int hi, D.int first, cF] h = some (.ret (.tup []), h') ∧ SD kb (Go.Sort.siftDown lt hi first lo d) h h' ∧ (Go.Sort.siftDown lt hi first lo d).size = N := by
  obtain ⟨m, rfl, e⟩ := fn_body (pg := pg) (f := 138) (args := [.slr kb 0 N 3 cap, D.int lo, D.int hi, D.int first, cF]) (h := h) (show 0 < n by omega) rfl rfl
  rw [e]
  have sd := SD.refl hg hk hf
  simp [k138, Env.v_ini, ev_loop]
  refine Res.fin2 (lp_rule 3 (qSO (Go.Sort.siftDown lt hi first lo d) hi first kb N cap h) _ (sift_round _ hi first kb N hN hb cap h) (hi - lo) m _ (by omega) ⟨_, _, d, lo, rfl, by omega, ⟨by simp [Env.v_ini], by simp [Env.v_ini]⟩, by simp [Env.v_ini], by simp [Env.v_ini], by simp, hlo, hd, by repeat' first | exact sd | refine SD.bump ?_ _, rfl⟩) ?_
  rintro x s ⟨rfl | rfl, M, y, h', rfl, hd', sd'⟩
  all_goals
    simp
    exact ⟨sd', hd'⟩
end Go.Proofs.YtlddgfkdicgbeaaGreatDoor
/- The library's sort: the heap sort. -/
namespace Go.Proofs.YtlddgfkdicgbeaaGreatDoor
open Go Go.Em
set_option maxRecDepth 100000
theorem Res.fin3 {o : Option (Ex × St)} {id : Nat} {R : Rc} {rs : List (ResultVar × Bool × Nat)} {P : Ex → St → Prop} {r : Out} {C : Heap → Prop} {k : St → Option (Ex × St)} (h : Res o P)
    (hk : ∀ x s, P x s → ∃ h', endH R rs (andThen (blockK id (some (x, s))) k) = some (r, h') ∧ C h') : ∃ h', endH R rs (andThen (blockK id o) k) = some (r, h') ∧ C h' := by
  obtain ⟨x, s, rfl, p⟩ := h; exact hk x s p
theorem hb_succ (hi first k : Nat) (d : Array EE) : Go.Sort.heapBuild lt hi first (k + 1) d = Go.Sort.heapBuild lt hi first k (Go.Sort.siftDown lt hi first k d) := rfl
theorem hp_succ (first k : Nat) (d : Array EE) : Go.Sort.heapPop lt first (k + 1) d = Go.Sort.heapPop lt first k (Go.Sort.siftDown lt k first 0 (Go.Sort.swp d first (first + k))) := rfl
def qHO (T : Array EE) (hi first kb N : Nat) (cap : Option Nat) (h0 : Heap) (k : Nat) (s : St) : Prop := ∃ (x : Env 60) (h : Heap) (d : Array EE), s = ⟨x.l, h, []⟩ ∧ (x.v 0 = .slr kb 0 N 3 cap ∧ x.v 3 = cF) ∧ x.v 8 = D.int first ∧ x.v 9 = D.int 0 ∧ x.v 10 = D.int hi ∧ x.v 11 = D.int ((k : Int) - 1) ∧ k ≤ hi + 1 ∧ d.size = N ∧ SD kb d h0 h ∧ Go.Sort.heapBuild lt hi first k d = T
def qHQ (T : Array EE) (hi first kb N : Nat) (cap : Option Nat) (h0 : Heap) (s : St) : Prop := ∃ (x : Env 60) (h : Heap), s = ⟨x.l, h, []⟩ ∧ (x.v 0 = .slr kb 0 N 3 cap ∧ x.v 3 = cF) ∧ x.v 8 = D.int first ∧ x.v 9 = D.int 0 ∧ x.v 10 = D.int hi ∧ T.size = N ∧ SD kb T h0 h
set_option maxHeartbeats 8000000 in
theorem hb_round (T : Array EE) (hi first kb N : Nat) (hN : N ≤ 10000000) (hb : first + hi ≤ N) (h1 : 0 < hi) (cap : Option Nat) (h0 : Heap) : ∀ n, N + 20 ≤ n → ∀ k s, qHO T hi first kb N cap h0 k s → Res (k108l0.ev ⟨pg, 60, none⟩ (rc pg n) s) (Rnd (qHO T hi first kb N cap h0) (fun x s => x = .exit 0 ∧ qHQ T hi first kb N cap h0 s) k) := by
  rintro n hn k s ⟨x, h, d, rfl, ⟨v0, vc⟩, v6, v7, v8, v9, hk, hd, sd, hT⟩
  cases k with
  | zero =>
    have q1 : ¬ ((0 : Int) ≤ ((0 : Nat) : Int) - 1) := by omega
    simp [k108l0, v9]
    exact ⟨_, _, rfl, ⟨by simp [v0], by simp [vc]⟩, by simp [v6], by simp [v7], by simp [v8], by rw [← hT]; exact hd, by rw [← hT]; exact sd.bump _⟩
  | succ j =>
    rw [hb_succ] at hT
    have e9 : ((j + 1 : Nat) : Int) - 1 = (j : Int) := by omega
    rw [e9] at v9
    have q1 : (0 : Int) ≤ (j : Int) := by omega
    have w1 : IntKind.i64.wrap ((j : Int) - 1) = (j : Int) - 1 := wrap_i64 (by omega) (by omega)
    obtain ⟨H, hH⟩ : ∃ H, H = (h.bump 60).bump 60 := ⟨_, rfl⟩
    have sdH : SD kb d h0 H := hH ▸ (sd.bump 60).bump 60
    obtain ⟨h', c, sd', hd'⟩ := sift_sh (lo := j) (hi := hi) (first := first) sdH.g (by have := sdH.n; have := sdH.k; omega) sdH.fr hd hN cap (by omega) hb (n := n) (by omega)
    have cs := call_sh (pg := pg) (f := 138) rfl c
    simp [k108l0, v0, vc, v6, v8, v9, q1, w1, ← hH, cs]
    have sd2 := sdH.trans sd'
    exact ⟨_, _, _, rfl, ⟨by simp [v0], by simp [vc]⟩, by simp [v6], by simp [v7], by simp [v8], by simp, by omega, hd', by repeat' first | exact sd2 | refine SD.bump ?_ _, hT⟩
def qPO (T : Array EE) (first kb N : Nat) (cap : Option Nat) (h0 : Heap) (k : Nat) (s : St) : Prop := ∃ (x : Env 60) (h : Heap) (d : Array EE), s = ⟨x.l, h, []⟩ ∧ (x.v 0 = .slr kb 0 N 3 cap ∧ x.v 3 = cF) ∧ x.v 8 = D.int first ∧ x.v 9 = D.int ((0 : Nat) : Int) ∧ x.v 12 = D.int ((k : Int) - 1) ∧ first + k ≤ N ∧ d.size = N ∧ SD kb d h0 h ∧ Go.Sort.heapPop lt first k d = T
set_option maxHeartbeats 8000000 in
theorem hp_round (T : Array EE) (first kb N : Nat) (hN : N ≤ 10000000) (cap : Option Nat) (h0 : Heap) : ∀ n, N + 20 ≤ n → ∀ k s, qPO T first kb N cap h0 k s → Res (k108l1.ev ⟨pg, 60, none⟩ (rc pg n) s) (Rnd (qPO T first kb N cap h0) (fun x s => x = .exit 2 ∧ qSQ T kb N h0 s) k) := by
  rintro n hn k s ⟨x, h, d, rfl, ⟨v0, vc⟩, v6, v7, v10, hk, hd, sd, hT⟩
  cases k with
  | zero =>
    simp [k108l1, v10]
    exact ⟨_, _, _, rfl, by rw [← hT]; exact hd, by rw [← hT]; exact sd.bump _⟩
  | succ j =>
    rw [hp_succ] at hT
    have g := sd.g
    have e9 : ((j + 1 : Nat) : Int) - 1 = (j : Int) := by omega
    rw [e9] at v10
    have q1 : (0 : Int) ≤ (j : Int) := by omega
    have w1 : IntKind.i64.wrap ((j : Int) - 1) = (j : Int) - 1 := wrap_i64 (by omega) (by omega)
    obtain ⟨p, hp⟩ : ∃ p, p = first + j := ⟨_, rfl⟩
    rw [← hp] at hT
    have w2 : IntKind.i64.wrap ((first : Int) + (j : Int)) = (p : Int) := wn (by omega) (by omega)
    have hpN : p < d.size := by omega
    have hfN : first < d.size := by omega
    have l1 : p < N := by omega
    have l2 : first < N := by omega
    have l3 : p + 1 ≤ N := by omega
    have l4 : first + 1 ≤ N := by omega
    obtain ⟨C, C1, C2, vp, vq, hC, hl, hl1, hl2, f1, f2, e1, e2, p1, p2, c1, c2, y1, y2⟩ := swp_facts hfN hpN
    rw [← hC] at g
    obtain ⟨H, hH⟩ : ∃ H, H = ((((h.bump 60).bump 60).set kb (some (.cells 74 C1))).set kb (some (.cells 74 C2))).bump 60 := ⟨_, rfl⟩
    have sdH : SD kb (Go.Sort.swp d first p) h0 H := hH ▸ SD.bump (SD.two ((sd.bump 60).bump 60) c1 c2) 60
    obtain ⟨h', c, sd', hd'⟩ := sift_sh (lo := 0) (hi := j) (first := first) sdH.g (by have := sdH.n; have := sdH.k; omega) sdH.fr (swp_size d first p hd) hN cap (by omega) (by omega) (n := n) (by omega)
    have cs := call_sh (pg := pg) (f := 138) rfl c
    have z0 : D.int ((0 : Nat) : Int) = D.int 0 := rfl
    rw [z0] at cs v7
    simp [k108l1, v0, vc, v6, v7, v10, q1, w1, w2, D.cells, g, hl, hl1, f1, e2, f2, p1, p2, l1, l2, ← hH, cs]
    have sd2 := sdH.trans sd'
    exact ⟨_, _, _, rfl, ⟨by simp [v0], by simp [vc]⟩, by simp [v6], by simp [v7], by simp, by omega, hd', by repeat' first | exact sd2 | refine SD.bump ?_ _, hT⟩
set_option maxHeartbeats 8000000 in
theorem heap_sh {kb : Nat} {d : Array EE} {h : Heap} (hg : h.get kb = some (.cells 74 (eCs d))) (hk : kb < h.next) (hf : h.Fr) {N : Nat} (hd : d.size = N) (hN : N ≤ 10000000) (cap : Option Nat) {a b : Nat} (hab : a < b) (hb : b ≤ N) {n : Nat} (hn : 2 * N + 40 ≤ n) :
    ∃ h', (rc pg n).fn 108 [.slr kb 0 N 3 cap, D.int a, D.int b, cF] h = some (.ret (.tup []), h') ∧ SD kb (Go.Sort.heapSort lt d a b) h h' ∧ (Go.Sort.heapSort lt d a b).size = N := by
  obtain ⟨m, rfl, e⟩ := fn_body (pg := pg) (f := 108) (args := [.slr kb 0 N 3 cap, D.int a, D.int b, cF]) (h := h) (show 0 < n by omega) rfl rfl
  rw [e]
  have sd := SD.refl hg hk hf
  obtain ⟨hi, hhi⟩ : ∃ hi, hi = b - a := ⟨_, rfl⟩
  obtain ⟨i1, hi1⟩ : ∃ i, i = (b - a - 1) / 2 := ⟨_, rfl⟩
  have w1 : IntKind.i64.wrap ((b : Int) - (a : Int)) = (hi : Int) := wn (by omega) (by omega)
  have w2 : IntKind.i64.wrap ((hi : Int) - 1) = ((hi - 1 : Nat) : Int) := wn (by omega) (by omega)
  have w3 : IntKind.i64.wrap (((hi - 1 : Nat) : Int).tdiv 2) = (i1 : Int) := wn (by rw [hi1, Int.tdiv_eq_ediv_of_nonneg (by omega)]; omega) (by omega)
  have ew : Go.Sort.heapSort lt d a b = Go.Sort.heapPop lt a hi (Go.Sort.heapBuild lt hi a (i1 + 1) d) := by rw [hhi, hi1]; rfl
  rw [ew]
  obtain ⟨T, hT⟩ : ∃ T, T = Go.Sort.heapBuild lt hi a (i1 + 1) d := ⟨_, rfl⟩
  rw [← hT]
  have w4 : bin .quo (.int .i64 ((hi - 1 : Nat) : Int)) (.int .i64 2) = some (.int .i64 (i1 : Int)) := by rw [bin_quo (by omega), w3]
  simp [k108, Env.v_ini, w1, w2, w4, ev_loop]
  refine Res.fin3 (lp_rule (N + 20) (qHO T hi a kb N cap h) _ (hb_round T hi a kb N hN (by omega) (by omega) cap h) (i1 + 1) m _ (by omega) ⟨_, _, d, rfl, by simp [Env.v_ini], by simp, by simp, by simp, by simp, by omega, hd, by repeat' first | exact sd | refine SD.bump ?_ _, hT.symm⟩) ?_
  rintro x s ⟨rfl, y, h', rfl, ⟨y0, yc⟩, y6, y7, y8, hd', sd'⟩
  have z0 : D.int ((0 : Nat) : Int) = D.int 0 := rfl
  simp [y8, w2, ev_loop]
  refine Res.fin2 (lp_rule (N + 20) (qPO (Go.Sort.heapPop lt a hi T) a kb N cap h) _ (hp_round _ a kb N hN cap h) hi m _ (by omega) ⟨_, _, T, rfl, ⟨by simp [y0], by simp [yc]⟩, by simp [y6], by simp [y7], by simp; omega, by omega, hd', by repeat' first | exact sd' | refine SD.bump ?_ _, rfl⟩) ?_
  rintro x s ⟨rfl, M, y, h', rfl, hd', sd'⟩
  simp
  exact ⟨sd', hd'⟩
end Go.Proofs.YtlddgfkdicgbeaaGreatDoor
