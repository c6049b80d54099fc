/- The first of the largest: slices.MaxFunc and slices.Index. -/
import Derived.Test.YtngjpeoloaeneaaGreatDoorFm4
namespace Go.Proofs.YtngjpeoloaeneaaGreatDoor
open Go Go.Em
set_option maxRecDepth 100000
def dV (c : Cfg) (R : Rc) (pn : Bool) (args : List D) (h : Heap) (y : D) : Option (D × Heap) := match y with
  | .fn (.func f) fs cs => if c.pg.sh f = true then none else match each (frz h depth) ((fs ++ args) ++ cs) with
    | some (bs, ks) => match pureA R f ((fs ++ args) ++ cs) bs with
      | some o => if ((ks.isEmpty || o.d.flat) && (o.isPan == pn)) = true then some (o.d, h) else none
      | none => none
    | none => none
  | _ => none
@[simp] theorem dcore_v (c : Cfg) (R : Rc) (base : Nat) (d : Option Nat) (gd : Bool) (y : X) (args : List X) (wt : Nat) (pn : Bool) (e : List D) (h : Heap) :
    dcore c R base ⟨⟨none, d, .inr (.val gd y args)⟩, some [], [], wt, pn⟩ e h = dV c R pn (args.map (rd c.pg.gl e)) h (rd c.pg.gl e y) := by
  have hk : h.kill (hids base e []) = h := by rw [hids_nil, kill_nil]
  unfold dcore dV
  simp only [G.want, hk]
  rfl
theorem dV_of {c : Cfg} {R : Rc} {f : FuncId} {a : D} {l : List D} {o : D} (hs : c.pg.sh f = false) (ha : D.canonL (a :: l) = true) (x : pureCall R f (a :: l) = some (.ret o)) (h : Heap) : dV c R false (a :: l) h (.fn (.func f) [] []) = some (o, h) := by
  have he : each (frz h depth) (a :: l) = some (a :: l, []) := each_canon h 23 _ ha
  unfold dV
  simp only [hs, List.nil_append, List.append_nil, he, pureA_cons, pureS, orS, x, List.isEmpty_nil, Bool.true_or, Bool.true_and, Out.isPan, Out.d, beq_self_eq_true, if_true, Bool.false_eq_true, if_false]
def MxI (L : List Pr) (k : Nat) (s : St) : Prop := ∃ (x : Env 33) (h : Heap) (i : Nat), s = ⟨x.l, h, []⟩ ∧ 1 ≤ i ∧ i + k = L.length ∧ x.v 0 = frsD L ∧ x.v 1 = .fn (.func 30) [] [] ∧ x.v 4 = .ptr 4 0 ∧ x.v 5 = .ptr 71 0 ∧ x.v 6 = D.int i ∧ h.get 4 = some (.cells 36 [D.int 0, D.int 0]) ∧ h.get 71 = some (.cells 36 (frC (gt L (bst L (i - 1)))))
set_option maxHeartbeats 4000000 in
theorem mx_round (L : List Pr) (hL : L.length ≤ 400) : ∀ n, 100 ≤ n → ∀ k s, MxI L k s → Res (k63l0.ev ⟨pg, 33, none⟩ (rc pg n) s) (Rnd (MxI L) (fun x s => x = .exit 0 ∧ MxI L 0 s) k) := by
  rintro n hn k s ⟨x, h, i, rfl, i1, hik, v0, v1, v4, v5, v6, g4, g5⟩
  simp only [frsD] at v0
  by_cases hi : i < L.length
  · obtain ⟨v, hv⟩ : ∃ v, L[i] = v := ⟨_, rfl⟩
    have hgt : gt L i = v := by rw [gt_eq hi, hv]
    have hb : bst L i = if 0 < cm (gt L i) (gt L (bst L (i - 1))) then i else bst L (i - 1) := by
      obtain ⟨j, rfl⟩ : ∃ j, i = j + 1 := ⟨i - 1, by omega⟩
      rfl
    obtain ⟨B, hB⟩ : ∃ B, B = gt L (bst L (i - 1)) := ⟨_, rfl⟩
    rw [hgt, ← hB] at hb
    rw [← hB] at g5
    have w1 : IntKind.i64.wrap ((i : Int) + 1) = (i : Int) + 1 := wrap_i64 (by omega) (by omega)
    have c := fun h => dV_of (c := ⟨pg, 33, none⟩) (f := 30) rfl rfl (cmp_run v.1 v.2 B.1 B.2 (f := n) (by omega)) h
    have hcm : cmR v.1 v.2 B.1 B.2 = cm v B := rfl
    rw [hcm] at c
    simp only [frD, frC] at c g5
    by_cases hc : 0 < cm v B
    · rw [if_pos hc] at hb
      simp [k63l0, v0, v1, v5, v6, hi, hv, D.cells, D.one, c, w1, g5, frD, hc]
      exact ⟨k - 1, by omega, _, _, i + 1, rfl, by omega, by omega, by simp [v0, frsD, frD], by simp [v1], by simp [v4], by simp [v5], by simp, by simp [g4], by simp [hb, hgt, frC]⟩
    · rw [if_neg hc] at hb
      simp [k63l0, v0, v1, v5, v6, hi, hv, D.cells, c, w1, g5, frD, hc]
      exact ⟨k - 1, by omega, _, _, i + 1, rfl, by omega, by omega, by simp [v0, frsD, frD], by simp [v1], by simp [v4], by simp [v5], by simp, by simp [g4], by simp [hb, ← hB, frC, g5]⟩
  · simp [k63l0, v0, v6, hi]
    exact ⟨_, _, i, rfl, i1, by omega, by simp [v0, frsD], by simp [v1], by simp [v4], by simp [v5], by simp [v6], by simp [g4], by simp [g5]⟩
set_option maxHeartbeats 4000000 in
theorem max_run (L : List Pr) (hL : L.length ≤ 400) (h1 : 1 ≤ L.length) {n : Nat} (hn : 600 ≤ n) : pureCall (rc pg n) 63 [frsD L, .fn (.func 30) [] []] = some (.ret (frD (gt L (bst L (L.length - 1))).1 (gt L (bst L (L.length - 1))).2)) := by
  obtain ⟨m, rfl, e⟩ := body (pg := pg) (f := 63) (args := [frsD L, .fn (.func 30) [] []]) (show 0 < n by omega) rfl rfl
  rw [e]
  have h0 : 0 < L.length := by omega
  obtain ⟨v, hv⟩ : ∃ v, L[0] = v := ⟨_, rfl⟩
  have hgt : gt L 0 = v := by rw [gt_eq h0, hv]
  have hz : ¬ (L.length : Int) < 1 := by omega
  simp [k63, Env.v_ini, frsD, ev_loop, h0, hz, hv, D.cells, D.one, frD]
  refine Res.endsAfter (lp_rule 100 (MxI L) _ (mx_round L hL) (L.length - 1) m _ (by omega) ⟨_, _, 1, rfl, by omega, by omega, by simp [Env.v_ini, frsD, frD], by simp [Env.v_ini], by simp, by simp, by simp, by simp, by simp [bst, hgt, frC]⟩) ?_
  rintro x s ⟨rfl, x, h, i, rfl, i1, hi, v0, v1, v4, v5, v6, g4, g5⟩
  obtain rfl : i = L.length := by omega
  simp only [frC] at g5
  simp [v4, v5, g4, g5, D.cells, D.one]
def IxI (L : List Pr) (v : Pr) (k : Nat) (s : St) : Prop := ∃ (x : Env 19) (h : Heap) (i : Nat), s = ⟨x.l, h, []⟩ ∧ i + k = L.length ∧ x.v 0 = frsD L ∧ x.v 3 = .ptr 3 0 ∧ x.v 7 = D.int L.length ∧ x.v 8 = D.int i ∧ (∀ j, j < i → gt L j ≠ v) ∧ h.get 3 = some (.cells 36 (frC v))
def IxQ (L : List Pr) (v : Pr) (x : Ex) (s : St) : Prop := (x = .exit 0 ∧ ∀ j, j < L.length → gt L j ≠ v) ∨ (x = .ret ∧ ∃ (x : Env 19) (h : Heap) (i : Nat), s = ⟨x.l, h, []⟩ ∧ i < L.length ∧ gt L i = v ∧ (∀ j, j < i → gt L j ≠ v) ∧ x.v 4 = D.int i)
set_option maxHeartbeats 4000000 in
theorem ix_round (L : List Pr) (hL : L.length ≤ 400) (v : Pr) : ∀ n, 100 ≤ n → ∀ k s, IxI L v k s → Res (k64l0.ev ⟨pg, 19, none⟩ (rc pg n) s) (Rnd (IxI L v) (IxQ L v) k) := by
  rintro n hn k s ⟨x, h, i, rfl, hik, v0, v3, v7, v8, hf, g3⟩
  simp only [frsD] at v0
  by_cases hi : i < L.length
  · obtain ⟨u, hu⟩ : ∃ u, L[i] = u := ⟨_, rfl⟩
    have hgt : gt L i = u := by rw [gt_eq hi, hu]
    have w1 : IntKind.i64.wrap ((i : Int) + 1) = (i : Int) + 1 := wrap_i64 (by omega) (by omega)
    simp only [frC] at g3
    by_cases hc : v = u
    · subst hc
      simp [k64l0, v0, v3, v7, v8, hi, hu, D.cells, g3, frD]
      exact .inr ⟨rfl, _, _, i, rfl, hi, hgt, hf, by simp⟩
    · by_cases h1 : v.1 = u.1
      · have h2 : ¬ v.2 = u.2 := fun h2 => hc (Prod.ext h1 h2)
        have h12 : (v.1 == u.1 && v.2 == u.2) = false := by simp [h1, h2]
        simp [k64l0, v0, v3, v7, v8, hi, hu, D.cells, w1, g3, frD, h12]
        exact ⟨k - 1, by omega, _, _, i + 1, rfl, by omega, by simp [v0, frsD, frD], by simp [v3], by simp [v7], by simp, fun j hj => by
          by_cases hji : j = i
          · subst hji; rw [hgt]; exact fun hh => hc hh.symm
          · exact hf j (by omega), by simp [g3, frC]⟩
      · have h12 : (v.1 == u.1 && v.2 == u.2) = false := by simp [h1]
        simp [k64l0, v0, v3, v7, v8, hi, hu, D.cells, w1, g3, frD, h12]
        exact ⟨k - 1, by omega, _, _, i + 1, rfl, by omega, by simp [v0, frsD, frD], by simp [v3], by simp [v7], by simp, fun j hj => by
          by_cases hji : j = i
          · subst hji; rw [hgt]; exact fun hh => hc hh.symm
          · exact hf j (by omega), by simp [g3, frC]⟩
  · simp [k64l0, v7, v8, hi]
    exact .inl ⟨rfl, fun j hj => hf j (by omega)⟩
set_option maxHeartbeats 4000000 in
theorem index_run (L : List Pr) (hL : L.length ≤ 400) (b : Nat) (hb : b < L.length) (hf : ∀ j, j < b → gt L j ≠ gt L b) {n : Nat} (hn : 600 ≤ n) : pureCall (rc pg n) 64 [frsD L, frD (gt L b).1 (gt L b).2] = some (.ret (D.int b)) := by
  obtain ⟨m, rfl, e⟩ := body (pg := pg) (f := 64) (args := [frsD L, frD (gt L b).1 (gt L b).2]) (show 0 < n by omega) rfl rfl
  rw [e]
  simp [k64, Env.v_ini, frsD, ev_loop, D.cells, D.one, frD]
  refine Res.endsAfter (lp_rule 100 (IxI L (gt L b)) _ (ix_round L hL (gt L b)) L.length m _ (by omega) ⟨_, _, 0, rfl, by omega, by simp [Env.v_ini, frsD, frD], by simp, by simp, by simp, fun j hj => by omega, by simp [frC]⟩) ?_
  rintro x s (⟨rfl, hn⟩ | ⟨rfl, x, h, i, rfl, hi, hg, hfi, v4⟩)
  · exact absurd rfl (hn b hb)
  · have hib : i = b := by
      by_cases h1 : i < b
      · exact absurd hg (hf i h1)
      · by_cases h2 : b < i
        · exact absurd rfl (hfi b h2)
        · omega
    subst hib
    simp [v4]
end Go.Proofs.YtngjpeoloaeneaaGreatDoor
