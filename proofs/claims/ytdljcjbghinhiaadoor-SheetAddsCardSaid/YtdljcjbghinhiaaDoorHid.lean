/- Hidden years at the beginning of a list; whether a list begins with another one. -/
import Derived.Test.YtdljcjbghinhiaaDoorSpans
import Derived.Test.YtdljcjbghinhiaaDoorReadLaw
namespace Go.Proofs.YtdljcjbghinhiaaDoor
open Go Go.Em
set_option maxRecDepth 100000
/-- How many zeros stand ahead. -/
def zF : List Int → Nat
  | [] => 0
  | a :: l => if a = 0 then zF l + 1 else 0
def nzF : Nat → List Int → Int
  | _, [] => -1
  | i, a :: l => if a = 0 then nzF (i + 1) l else (i : Int)
theorem zF_le : ∀ l : List Int, zF l ≤ l.length
  | [] => Nat.le_refl _
  | a :: l => by
    unfold zF
    have := zF_le l
    split <;> simp <;> omega
theorem nz_z : ∀ (l : List Int) (i : Nat), nzF i l = if zF l = l.length then -1 else ((i + zF l : Nat) : Int)
  | [], _ => rfl
  | a :: l, i => by
    unfold nzF zF
    by_cases h : a = 0
    · rw [if_pos h, if_pos h, nz_z l (i + 1), List.length_cons]
      by_cases h2 : zF l = l.length
      · rw [if_pos h2, if_pos (by omega)]
      · rw [if_neg h2, if_neg (by omega)]; congr 1; omega
    · rw [if_neg h, if_neg h, if_neg (by simp)]; rfl
theorem nzero_run {n : Nat} (hn : 1 ≤ n) (a : Int) : pureCall (rc pg n) 57 [D.int a] = some (.ret (D.bool (a != 0))) := by
  obtain ⟨m, rfl, e⟩ := body (pg := pg) (f := 57) (args := [D.int a]) (show 0 < n by omega) rfl rfl
  rw [e]
  simp [k57, Env.v_ini]
def HXI (l : List Int) (k : Nat) (s : St) : Prop := ∃ (x : Env 19) (h : Heap) (i : Nat), s = ⟨x.l, h, []⟩ ∧ i + k = l.length ∧ x.v 0 = intsD l ∧ x.v 1 = .fn (.func 57) [] [] ∧ x.v 7 = D.int l.length ∧ x.v 8 = D.int i ∧ nzF 0 l = nzF i (l.drop i)
def HXQ (l : List Int) (x : Ex) (s : St) : Prop :=
  (x = .exit 0 ∧ nzF 0 l = -1 ∧ ∃ (x : Env 19) (h : Heap), s = ⟨x.l, h, []⟩) ∨ (x = .ret ∧ ∃ (x : Env 19) (h : Heap), s = ⟨x.l, h, []⟩ ∧ x.v 4 = D.int (nzF 0 l))
set_option maxHeartbeats 1000000 in
theorem nzix_round (l : List Int) (hl : l.length ≤ 9000000000) : ∀ n, 2 ≤ n → ∀ k s, HXI l k s → Res (k56l0.ev ⟨pg, 19, none⟩ (rc pg n) s) (Rnd (HXI l) (HXQ l) k) := by
  rintro n hn k s ⟨x, h, i, rfl, hik, v0, v1, v7, v8, ho⟩
  simp only [intsD] at v0
  by_cases hlt : i < l.length
  · obtain ⟨a, ha⟩ : ∃ a, l[i] = a := ⟨l[i], rfl⟩
    have hd : l.drop i = a :: l.drop (i + 1) := by rw [List.drop_eq_getElem_cons hlt, ha]
    rw [hd, nzF] at ho
    have hw1 : IntKind.i64.wrap ((i : Int) + 1) = (i : Int) + 1 := wrap_i64 (by omega) (by omega)
    have hz := fun h => call_of (h := h) (pg := pg) (f := 57) rfl rfl (@nzero_run n (by omega) a)
    by_cases h0 : a = 0
    · rw [if_pos h0] at ho
      have h0' : (a != 0) = false := by simp [h0]
      simp only [h0'] at hz
      simp [k56l0, v0, v1, v7, v8, hlt, ha, D.cells, hz, hw1]
      exact ⟨k - 1, by omega, _, _, i + 1, rfl, by omega, by simp [v0, intsD], by simp [v1], by simp [v7], by simp, ho⟩
    · rw [if_neg h0] at ho
      have h0' : (a != 0) = true := by simp [h0]
      simp only [h0'] at hz
      simp [k56l0, v0, v1, v7, v8, hlt, ha, D.cells, hz]
      exact .inr ⟨rfl, _, _, rfl, by simp [ho]⟩
  · simp [k56l0, v7, v8, hlt]
    have hi : i = l.length := by omega
    rw [hi, List.drop_length] at ho
    exact .inl ⟨rfl, ho, _, _, rfl⟩
theorem nzix_run (l : List Int) (hl : l.length ≤ 9000000000) {n : Nat} (hn : l.length + 10 ≤ n) : pureCall (rc pg n) 56 [intsD l, .fn (.func 57) [] []] = some (.ret (D.int (nzF 0 l))) := by
  obtain ⟨m, rfl, e⟩ := body (pg := pg) (f := 56) (args := [intsD l, .fn (.func 57) [] []]) (show 0 < n by omega) rfl rfl
  rw [e]
  simp [k56, Env.v_ini, intsD, ev_loop]
  refine Res.endsAfter (lp_rule 2 (HXI l) (HXQ l) (nzix_round l hl) l.length m _ (by omega) ⟨_, _, 0, rfl, by omega, by simp [Env.v_ini, intsD], by simp [Env.v_ini], by simp, by simp, rfl⟩) ?_
  rintro x s (⟨rfl, ho, x, h, rfl⟩ | ⟨rfl, x, h, rfl, v4⟩)
  · simp [ho]
  · simp [v4]
theorem hidden_run (l : List Int) (hl : l.length ≤ 9000000000) {n : Nat} (hn : l.length + 15 ≤ n) : pureCall (rc pg n) 37 [intsD l] = some (.ret (D.int (zF l))) := by
  obtain ⟨m, rfl, e⟩ := body (pg := pg) (f := 37) (args := [intsD l]) (show 0 < n by omega) rfl rfl
  rw [e]
  have hx := fun h => call_of (h := h) (pg := pg) (f := 56) rfl (show D.canonL [intsD l, .fn (.func 57) [] []] = true by simp [intsD, ints_canon]) (@nzix_run l hl m (by omega))
  rw [nz_z] at hx
  simp only [intsD] at hx
  have hle := zF_le l
  by_cases h : zF l = l.length
  · simp only [if_pos h] at hx
    simp [k37, Env.v_ini, intsD, hx, h]
  · simp only [if_neg h, Nat.zero_add] at hx
    have hneg : ¬ ((zF l : Int) < 0) := by omega
    simp [k37, Env.v_ini, intsD, hx, hneg]
/-- Two lists are the same. -/
def HEI (a b : List Int) (k : Nat) (s : St) : Prop := ∃ (x : Env 26) (h : Heap) (i : Nat), s = ⟨x.l, h, []⟩ ∧ i + k = a.length ∧ x.v 0 = intsD a ∧ x.v 1 = intsD b ∧ x.v 12 = D.int a.length ∧ x.v 13 = D.int i ∧ a.take i = b.take i
def HEQ (a b : List Int) (x : Ex) (s : St) : Prop :=
  (x = .exit 0 ∧ a = b ∧ ∃ (x : Env 26) (h : Heap), s = ⟨x.l, h, []⟩) ∨ (x = .ret ∧ a ≠ b ∧ ∃ (x : Env 26) (h : Heap), s = ⟨x.l, h, []⟩ ∧ x.v 4 = D.bool false)
set_option maxHeartbeats 1000000 in
theorem eql_round (a b : List Int) (hl : a.length ≤ 9000000000) (hab : a.length = b.length) : ∀ n, 2 ≤ n → ∀ k s, HEI a b k s → Res (k58l0.ev ⟨pg, 26, none⟩ (rc pg n) s) (Rnd (HEI a b) (HEQ a b) k) := by
  rintro n hn k s ⟨x, h, i, rfl, hik, v0, v1, v12, v13, ho⟩
  simp only [intsD] at v0 v1
  by_cases hlt : i < a.length
  · have hlt2 : i < b.length := by omega
    obtain ⟨u, hu⟩ : ∃ u, a[i] = u := ⟨_, rfl⟩
    obtain ⟨w, hw⟩ : ∃ w, b[i] = w := ⟨_, rfl⟩
    have hw1 : IntKind.i64.wrap ((i : Int) + 1) = (i : Int) + 1 := wrap_i64 (by omega) (by omega)
    by_cases h0 : u = w
    · have h0' : (u != w) = false := by simp [h0]
      simp [k58l0, v0, v1, v12, v13, hlt, hlt2, hu, hw, D.cells, h0', hw1]
      refine ⟨k - 1, by omega, _, _, i + 1, rfl, by omega, by simp [v0, intsD], by simp [v1, intsD], by simp [v12], by simp, ?_⟩
      rw [List.take_add_one, List.take_add_one, ho, List.getElem?_eq_getElem hlt, List.getElem?_eq_getElem hlt2, hu, hw, h0]
    · have h0' : (u != w) = true := by simp [h0]
      simp [k58l0, v0, v1, v12, v13, hlt, hlt2, hu, hw, D.cells, h0']
      refine .inr ⟨rfl, ?_, _, _, rfl, by simp⟩
      rintro rfl
      exact h0 (hu.symm.trans hw)
  · simp [k58l0, v12, v13, hlt]
    have hi : i = a.length := by omega
    refine .inl ⟨rfl, ?_, _, _, rfl⟩
    rw [hi, List.take_length, hab, List.take_length] at ho
    exact ho
theorem eql_run (a b : List Int) (hl : a.length ≤ 9000000000) (hab : a.length = b.length) {n : Nat} (hn : a.length + 10 ≤ n) : pureCall (rc pg n) 58 [intsD a, intsD b] = some (.ret (D.bool (decide (a = b)))) := by
  obtain ⟨m, rfl, e⟩ := body (pg := pg) (f := 58) (args := [intsD a, intsD b]) (show 0 < n by omega) rfl rfl
  rw [e]
  have hab' : (a.length : Int) = b.length := by omega
  simp [k58, Env.v_ini, intsD, ev_loop, hab']
  refine Res.endsAfter (lp_rule 2 (HEI a b) (HEQ a b) (eql_round a b hl hab) a.length m _ (by omega) ⟨_, _, 0, rfl, by omega, by simp [Env.v_ini, intsD], by simp [Env.v_ini, intsD], by simp [hab], by simp, rfl⟩) ?_
  rintro x s (⟨rfl, ho, x, h, rfl⟩ | ⟨rfl, ho, x, h, rfl, v4⟩)
  · simp [ho]
  · simp [ho, v4]
theorem ints_head (l : List Int) : headOk 1 (l.map D.int) = true := by cases l <;> rfl
/-- Whether a list begins with another one. -/
def preB (l f : List Int) : Bool := decide (f.length ≤ l.length) && decide (l.take f.length = f)
theorem starts_run (l f : List Int) (hl : l.length ≤ 9000000000) {n : Nat} (hn : l.length + 15 ≤ n) : pureCall (rc pg n) 39 [intsD l, intsD f] = some (.ret (D.bool (preB l f))) := by
  obtain ⟨m, rfl, e⟩ := body (pg := pg) (f := 39) (args := [intsD l, intsD f]) (show 0 < n by omega) rfl rfl
  rw [e]
  by_cases h : f.length ≤ l.length
  · have hlen : (l.take f.length).length = f.length := by simp; omega
    have hx := fun h => call_of (h := h) (pg := pg) (f := 58) rfl (show D.canonL [intsD (l.take f.length), intsD f] = true by simp only [intsD, D.canonL, D.canon, ints_canon]; rfl) (@eql_run (l.take f.length) f (by omega) hlen m (by omega))
    simp only [intsD, List.map_take] at hx
    have hh := ints_head l
    have h' : (f.length : Int) ≤ l.length := by omega
    simp [k39, Env.v_ini, intsD, h, hh, hx, preB]
  · have h' : ¬ (f.length : Int) ≤ l.length := by omega
    simp [k39, Env.v_ini, intsD, h, preB]
end Go.Proofs.YtdljcjbghinhiaaDoor
/- Whether a list is a reading of rows, by the program. -/
namespace Go.Proofs.YtdljcjbghinhiaaDoor
open Go Go.Em
set_option maxRecDepth 100000
theorem lp_step {pg : Pg} {n : Nat} {c : Cfg} {a : Cd} {s : St} : (rc pg (n + 1)).lp c a s = andThen (a.ev c (rc pg n) s) ((rc pg n).lp c a) := rfl
/-- What is left behind the layers of a row. -/
def wayF (r : Rw) (l : List Int) : Option (List Int) :=
  if r.k = 2 then (if preB l [r.n] = true then some (l.drop 1) else none)
  else if preB l [r.n + r.m] = true then some (l.drop 1) else if preB l [r.n, r.m] = true then some (l.drop 2) else none
/-- Whether rows read so, when so many hidden years may stand ahead. -/
def pgoF : List Rw → List Int → Int → Int → Bool
  | [], ys, lo, hi => decide (zF ys = ys.length) && inB (zF ys) lo hi
  | r :: l, ys, lo, hi =>
    if r.k = 1 ∨ r.k = 5 then pgoF l ys lo hi
    else if r.k = 4 ∨ r.k = 6 then pgoF l ys (lo + (natF r).lo) (hi + (natF r).hi)
    else if inB (zF ys) lo hi = false then false
    else match wayF r (ys.drop (zF ys)) with
      | some zs => pgoF l zs 0 0
      | none => false
def ISI (l : List Rw) (ys : List Int) (k : Nat) (s : St) : Prop := ∃ (x : Env 85) (h : Heap) (i : Nat) (zs : List Int) (lo hi : Int), s = ⟨x.l, h, []⟩ ∧ i + k = l.length ∧ x.v 24 = natsD (l.map natF) ∧ x.v 25 = D.int l.length ∧ x.v 26 = D.int i ∧ x.v 7 = intsD zs ∧ x.v 8 = D.int lo ∧ x.v 9 = D.int hi ∧
  zs.length ≤ ys.length ∧ (0 ≤ lo ∧ lo ≤ 1000 * i) ∧ (0 ≤ hi ∧ hi ≤ 1000 * i) ∧ pgoF l ys 0 0 = pgoF (l.drop i) zs lo hi ∧ h.Fr
def ISQ (l : List Rw) (ys : List Int) (x : Ex) (s : St) : Prop :=
  (x = .exit 0 ∧ ISI l ys 0 s) ∨ (x = .ret ∧ pgoF l ys 0 0 = false ∧ ∃ (x : Env 85) (h : Heap), s = ⟨x.l, h, []⟩ ∧ x.v 4 = D.bool false)
set_option maxHeartbeats 8000000 in
theorem is_round (l : List Rw) (ys : List Int) (hl : l.length ≤ 400) (hys : ys.length ≤ 9000000000) (hv : okAll l = true) : ∀ n, ys.length + 40 ≤ n → ∀ k s, ISI l ys k s → Res (k13l1.ev ⟨pg, 85, none⟩ (rc pg n) s) (Rnd (ISI l ys) (ISQ l ys) k) := by
  rintro n hn k s ⟨x, h, i, zs, lo, hi, rfl, hik, v24, v25, v26, v7, v8, v9, hzl, hlo, hhi, ho, hf⟩
  simp only [natsD] at v24
  simp only [intsD] at v7
  have hfr : ∀ j, h.raw (h.next + j) = none := fun j => hf _ (by omega)
  by_cases hlt : i < l.length
  · obtain ⟨r, hr⟩ : ∃ r, l[i] = r := ⟨l[i], rfl⟩
    have hd : l.drop i = r :: l.drop (i + 1) := by rw [List.drop_eq_getElem_cons hlt, hr]
    rw [hd, pgoF] at ho
    have hval : (natF r).valid = true := by rw [← hr]; exact List.all_eq_true.1 hv _ (List.getElem_mem hlt)
    have hw1 : IntKind.i64.wrap ((i : Int) + 1) = (i : Int) + 1 := wrap_i64 (by omega) (by omega)
    have hbl := lo_bound r hval
    have hbh := hi_bound r hval
    by_cases c1 : r.k = 1 ∨ r.k = 5
    · rw [if_pos c1] at ho
      have e1 : (natF r).hides = false ∧ (natF r).layers = [] := by rcases c1 with c1 | c1 <;> simp [natF, c1]
      simp [k13l1, v24, v25, v26, hlt, hr, natD, natC, D.cells, D.one, hfr, Nat.add_assoc, hw1, e1]
      refine ⟨k - 1, by omega, _, _, i + 1, zs, lo, hi, rfl, by omega, by simp [v24, natsD], by simp [v25], by simp, by simp [v7, intsD], by simp [v8], by simp [v9], hzl, by omega, by omega, ho, ?_⟩
      repeat' first | exact hf | apply Heap.Fr.bump | apply Heap.Fr.set
      all_goals (simp <;> omega)
    · rw [if_neg c1] at ho
      by_cases c2 : r.k = 4 ∨ r.k = 6
      · rw [if_pos c2] at ho
        have e1 : (natF r).hides = true := by rcases c2 with c2 | c2 <;> simp [natF, c2]
        have hw2 : IntKind.i64.wrap (lo + (natF r).lo) = lo + (natF r).lo := wrap_i64 (by omega) (by omega)
        have hw3 : IntKind.i64.wrap (hi + (natF r).hi) = hi + (natF r).hi := wrap_i64 (by omega) (by omega)
        simp [k13l1, v24, v25, v26, v8, v9, hlt, hr, natD, natC, D.cells, D.one, hfr, Nat.add_assoc, hw1, hw2, hw3, e1]
        refine ⟨k - 1, by omega, _, _, i + 1, zs, _, _, rfl, by omega, by simp [v24, natsD], by simp [v25], by simp, by simp [v7, intsD], by simp, by simp, hzl, by omega, by omega, ho, ?_⟩
        repeat' first | exact hf | apply Heap.Fr.bump | apply Heap.Fr.set
        all_goals (simp <;> omega)
      · rw [if_neg c2] at ho
        have hz := fun h => call_of (h := h) (pg := pg) (f := 37) rfl (show D.canonL [intsD zs] = true by simp only [intsD, D.canonL, D.canon, ints_canon]; rfl) (@hidden_run zs (by omega) n (by omega))
        have hwi := @within_run n (by omega)
        simp only [intsD] at hz
        have hin : inB (zF zs) lo hi = (decide (lo ≤ (zF zs : Int)) && decide ((zF zs : Int) ≤ hi)) := rfl
        obtain ⟨b, hb⟩ : ∃ b, inB (zF zs) lo hi = b := ⟨_, rfl⟩
        rw [hb] at hin ho
        cases b with
        | false =>
          simp only [if_true] at ho
          have e1 : (natF r).hides = false ∧ (natF r).layers ≠ [] := by
            refine kinds_cases r _ (fun h => absurd (.inl h) c1) ?_ ?_ (fun h => absurd (.inl h) c2) (fun h => absurd (.inr h) c1) (fun h => absurd (.inr h) c2) ?_
            · intro h; simp [natF, h]
            · intro h; simp [natF, h]
            · intro _ _ _ _ _ _ a1 a2 a3 a4 a5 a6; simp [natF, a1, a2, a3, a4, a5, a6] at hval
          have e2 : (((natF r).layers.length : Int) == 0) = false := by simp; exact e1.2
          simp [k13l1, v24, v25, v26, v7, v8, v9, hlt, hr, natD, natC, D.cells, D.one, hfr, Nat.add_assoc, e1, e2, hz, hwi, ← hin]
          exact .inr ⟨rfl, ho, _, _, rfl, by simp⟩
        | true =>
          simp only [Bool.true_eq_false, if_false] at ho
          obtain ⟨p, hn3⟩ := more_of (show 3 ≤ n by omega)
          subst hn3
          have hzle := zF_le zs
          have hhead := ints_head zs
          obtain ⟨ws, hws⟩ : ∃ ws, ws = zs.drop (zF zs) := ⟨_, rfl⟩
          have hwl : ws.length ≤ zs.length := by rw [hws, List.length_drop]; omega
          have hmapw : (zs.map D.int).drop (zF zs) = ws.map D.int := by rw [hws, List.map_drop]
          have htkw : (ws.map D.int).take (zs.length - zF zs) = ws.map D.int := List.take_of_length_le (by rw [hws]; simp)
          have hheadw := ints_head ws
          rw [← hws] at ho
          have L1 : ∀ s, (rc pg (p + 3)).lp ⟨pg, 85, none⟩ k13l0 s = andThen (k13l0.ev ⟨pg, 85, none⟩ (rc pg (p + 2)) s) ((rc pg (p + 2)).lp ⟨pg, 85, none⟩ k13l0) := fun s => rfl
          have L2 : ∀ s, (rc pg (p + 2)).lp ⟨pg, 85, none⟩ k13l0 s = andThen (k13l0.ev ⟨pg, 85, none⟩ (rc pg (p + 1)) s) ((rc pg (p + 1)).lp ⟨pg, 85, none⟩ k13l0) := fun s => rfl
          have L3 : ∀ s, (rc pg (p + 1)).lp ⟨pg, 85, none⟩ k13l0 s = andThen (k13l0.ev ⟨pg, 85, none⟩ (rc pg p) s) ((rc pg p).lp ⟨pg, 85, none⟩ k13l0) := fun s => rfl
          have htd1 : List.take (ws.length - 1) (List.map D.int ws).tail = (List.map D.int ws).tail := List.take_of_length_le (by simp)
          have htd2 : List.take (ws.length - 2) (List.drop 2 (List.map D.int ws)) = List.drop 2 (List.map D.int ws) := List.take_of_length_le (by simp)
          have w2 : IntKind.i64.wrap 2 = 2 := by decide
          have w3 : IntKind.i64.wrap 3 = 3 := by decide
          have hst := fun (f : List Int) (q : Nat) (hq : ys.length + 20 ≤ q) h => call_of (h := h) (pg := pg) (f := 39) rfl (show D.canonL [intsD ws, intsD f] = true by simp only [intsD, D.canonL, D.canon, ints_canon]; rfl) (@starts_run ws f (by omega) q (by omega))
          have S1 := fun f => hst f (p + 2) (by omega)
          have S2 := fun f => hst f (p + 1) (by omega)
          simp only [intsD] at S1 S2
          by_cases c3 : r.k = 2
          · have e : natF r = ⟨true, 1, 1, [r.n], 0, false, false⟩ := by
              simp [natF, c3] at hval ⊢; exact hval
            have hsm : small [r.n] := by
              simp [natF, c3, thickB, inB] at hval
              intro a ha; simp at ha; omega
            have hyo := fun h => call_of (h := h) (pg := pg) (f := 36) rfl (show D.canonL [natD ⟨true, 1, 1, [r.n], 0, false, false⟩, D.int 1] = true from rfl) (@yearsOf_run ⟨true, 1, 1, [r.n], 0, false, false⟩ hsm (by simp) 1 (by omega) (by omega) (p + 2) (by omega))
            have hy1 : yoF ⟨true, 1, 1, [r.n], 0, false, false⟩ 1 = [r.n] := by simp [yoF]
            rw [hy1] at hyo
            simp only [natD, natC, intsD] at hyo
            simp only [wayF, c3, if_true] at ho
            have W1 := S1 [r.n]
            simp only [List.map_cons, List.map_nil] at W1 hyo
            by_cases hp1 : preB ws [r.n] = true
            · rw [if_pos hp1] at ho
              rw [hp1] at W1
              have hone : 1 ≤ ws.length := by simp [preB] at hp1; omega
              have hone' : (1 : Int) ≤ ws.length := by omega
              have hne : ws ≠ [] := by rintro rfl; simp at hone
              have hpos : 0 < ws.length := hone
              simp [k13l1, v24, v25, v26, v7, v8, v9, hlt, hr, natD, natC, D.cells, D.one, hfr, Nat.add_assoc, e, hz, hwi, ← hin, hzle, hhead, hmapw, htkw, ev_loop]
              rw [L1]
              generalize hT : (rc pg (p + 2)).lp ⟨pg, 85, none⟩ k13l0 = T
              simp [k13l0, v26, Nat.add_assoc, hw1, hyo, W1, hheadw, hone', htd1]
              refine ⟨k - 1, by omega, _, _, i + 1, ws.drop 1, 0, 0, rfl, by omega, by simp [v24, natsD], by simp [v25], by simp, by simp [intsD], by simp, by simp, by simp; omega, by omega, by omega, ho, ?_⟩
              repeat' first | exact hf | apply Heap.Fr.bump | apply Heap.Fr.set
              all_goals (simp <;> omega)
            · rw [if_neg hp1] at ho
              have hp1' : preB ws [r.n] = false := by simpa using hp1
              rw [hp1'] at W1
              simp [k13l1, v24, v25, v26, v7, v8, v9, hlt, hr, natD, natC, D.cells, D.one, hfr, Nat.add_assoc, e, hz, hwi, ← hin, hzle, hhead, hmapw, htkw, ev_loop]
              rw [L1]
              generalize hT : (rc pg (p + 2)).lp ⟨pg, 85, none⟩ k13l0 = T
              simp [k13l0, w2, Nat.add_assoc, hyo, W1]
              rw [← hT, L2]
              simp [k13l0, Nat.add_assoc]
              exact .inr ⟨rfl, ho, _, _, rfl, by simp⟩
          · have c3' : r.k = 3 := by
              refine kinds_cases r _ (fun h => absurd (.inl h) c1) (fun h => absurd h c3) id (fun h => absurd (.inl h) c2) (fun h => absurd (.inr h) c1) (fun h => absurd (.inr h) c2) ?_
              intro _ _ _ _ _ _ a1 a2 a3 a4 a5 a6; simp [natF, a1, a2, a3, a4, a5, a6] at hval
            have e : natF r = ⟨true, 1, 2, [r.n, r.m], 0, false, true⟩ := by
              simp [natF, c3'] at hval ⊢; exact hval
            have hsm : small [r.n, r.m] := by
              simp [natF, c3', thickB, inB] at hval
              intro a ha; simp at ha; omega
            have hyo := fun h => call_of (h := h) (pg := pg) (f := 36) rfl (show D.canonL [natD ⟨true, 1, 2, [r.n, r.m], 0, false, true⟩, D.int 1] = true from rfl) (@yearsOf_run ⟨true, 1, 2, [r.n, r.m], 0, false, true⟩ hsm (by simp) 1 (by omega) (by omega) (p + 2) (by omega))
            have hyp := fun h => call_of (h := h) (pg := pg) (f := 36) rfl (show D.canonL [natD ⟨true, 1, 2, [r.n, r.m], 0, false, true⟩, D.int 2] = true from rfl) (@yearsOf_run ⟨true, 1, 2, [r.n, r.m], 0, false, true⟩ hsm (by simp) 2 (by omega) (by omega) (p + 1) (by omega))
            have hy1 : yoF ⟨true, 1, 2, [r.n, r.m], 0, false, true⟩ 1 = [r.n + r.m] := by simp [yoF]
            have hy2 : yoF ⟨true, 1, 2, [r.n, r.m], 0, false, true⟩ 2 = [r.n, r.m] := by simp [yoF]
            rw [hy1] at hyo
            rw [hy2] at hyp
            simp only [natD, natC, intsD] at hyo hyp
            simp only [wayF, c3, if_false] at ho
            have W1 := S1 [r.n + r.m]
            have W2 := S2 [r.n, r.m]
            simp only [List.map_cons, List.map_nil] at W1 W2 hyo hyp
            by_cases hp1 : preB ws [r.n + r.m] = true
            · rw [if_pos hp1] at ho
              rw [hp1] at W1
              have hone : 1 ≤ ws.length := by simp [preB] at hp1; omega
              have hone' : (1 : Int) ≤ ws.length := by omega
              have hne : ws ≠ [] := by rintro rfl; simp at hone
              have hpos : 0 < ws.length := hone
              simp [k13l1, v24, v25, v26, v7, v8, v9, hlt, hr, natD, natC, D.cells, D.one, hfr, Nat.add_assoc, e, hz, hwi, ← hin, hzle, hhead, hmapw, htkw, ev_loop]
              rw [L1]
              generalize hT : (rc pg (p + 2)).lp ⟨pg, 85, none⟩ k13l0 = T
              simp [k13l0, v26, Nat.add_assoc, hw1, hyo, W1, hheadw, hone', htd1]
              refine ⟨k - 1, by omega, _, _, i + 1, ws.drop 1, 0, 0, rfl, by omega, by simp [v24, natsD], by simp [v25], by simp, by simp [intsD], by simp, by simp, by simp; omega, by omega, by omega, ho, ?_⟩
              repeat' first | exact hf | apply Heap.Fr.bump | apply Heap.Fr.set
              all_goals (simp <;> omega)
            · rw [if_neg hp1] at ho
              have hp1' : preB ws [r.n + r.m] = false := by simpa using hp1
              rw [hp1'] at W1
              by_cases hp2 : preB ws [r.n, r.m] = true
              · rw [if_pos hp2] at ho
                rw [hp2] at W2
                have hone : 2 ≤ ws.length := by simp [preB] at hp2; omega
                have hone' : (2 : Int) ≤ ws.length := by omega
                simp [k13l1, v24, v25, v26, v7, v8, v9, hlt, hr, natD, natC, D.cells, D.one, hfr, Nat.add_assoc, e, hz, hwi, ← hin, hzle, hhead, hmapw, htkw, ev_loop]
                rw [L1]
                generalize hT : (rc pg (p + 2)).lp ⟨pg, 85, none⟩ k13l0 = T
                simp [k13l0, w2, Nat.add_assoc, hyo, W1]
                rw [← hT, L2]
                generalize hT2 : (rc pg (p + 1)).lp ⟨pg, 85, none⟩ k13l0 = T2
                simp [k13l0, v26, Nat.add_assoc, hw1, hheadw, hyp, W2, hone', htd2]
                refine ⟨k - 1, by omega, _, _, i + 1, ws.drop 2, 0, 0, rfl, by omega, by simp [v24, natsD], by simp [v25], by simp, by simp [intsD, List.map_drop], by simp, by simp, by simp; omega, by omega, by omega, ho, ?_⟩
                repeat' first | exact hf | apply Heap.Fr.bump | apply Heap.Fr.set
                all_goals (simp <;> omega)
              · rw [if_neg hp2] at ho
                have hp2' : preB ws [r.n, r.m] = false := by simpa using hp2
                rw [hp2'] at W2
                simp [k13l1, v24, v25, v26, v7, v8, v9, hlt, hr, natD, natC, D.cells, D.one, hfr, Nat.add_assoc, e, hz, hwi, ← hin, hzle, hhead, hmapw, htkw, ev_loop]
                rw [L1]
                generalize hT : (rc pg (p + 2)).lp ⟨pg, 85, none⟩ k13l0 = T
                simp [k13l0, w2, Nat.add_assoc, hyo, W1]
                rw [← hT, L2]
                generalize hT2 : (rc pg (p + 1)).lp ⟨pg, 85, none⟩ k13l0 = T2
                simp [k13l0, w3, Nat.add_assoc, hyp, W2]
                rw [← hT2, L3]
                simp [k13l0, Nat.add_assoc]
                exact .inr ⟨rfl, ho, _, _, rfl, by simp⟩
  · simp [k13l1, v25, v26, hlt]
    exact .inl ⟨rfl, _, _, i, zs, lo, hi, rfl, by omega, by simp [v24, natsD], by simp [v25], by simp [v26], by simp [v7, intsD], by simp [v8], by simp [v9], hzl, by omega, by omega, ho, hf.bump _⟩
end Go.Proofs.YtdljcjbghinhiaaDoor
/- Whether a list is a reading of rows: what it means; the program's answer. -/
namespace Go.Proofs.YtdljcjbghinhiaaDoor
open Go Go.Em
set_option maxRecDepth 100000
/-- The program's answer. -/
def isF (l : List Rw) (ys : List Int) : Bool := decide ((natsF l).2 = 0) && pgoF l ys 0 0
theorem is_run (l : List Rw) (ys : List Int) (hys : ys.length ≤ 9000000000) {n : Nat} (hn : l.length + ys.length + 100 ≤ n) : pureCall (rc pg n) 13 [rowsD l, intsD ys] = some (.ret (D.bool (isF l ys))) := by
  obtain ⟨m, rfl, e⟩ := body (pg := pg) (f := 13) (args := [rowsD l, intsD ys]) (show 0 < n by omega) rfl rfl
  rw [e]
  have hnat := fun h => call_of (h := h) (pg := pg) (f := 32) rfl (rows_canon l) (@natures_run l m (by omega))
  simp only [rowsD] at hnat
  by_cases h4 : (natsF l).2 = 0
  · rw [nats_ok h4, h4] at hnat
    have hl := len_of_ok h4
    have hv := ok_of h4
    simp [k13, Env.v_ini, rowsD, intsD, hnat, ev_loop]
    refine Res.endsAfter (lp_rule (ys.length + 40) (ISI l ys) (ISQ l ys) (is_round l ys hl hys hv) l.length m _ (by omega) ⟨_, _, 0, ys, 0, 0, rfl, by omega, by simp [natsD], by simp, by simp, by simp [intsD], by simp, by simp, by omega, by omega, by omega, rfl, ?_⟩) ?_
    · repeat' first | exact Heap.Fr.empty | apply Heap.Fr.bump | apply Heap.Fr.set
    rintro x s (⟨rfl, x, h, i, zs, lo, hi, rfl, hi', v24, v25, v26, v7, v8, v9, hzl, _, _, ho, hf⟩ | ⟨rfl, ho, x, h, rfl, v4⟩)
    · have hi2 : i = l.length := by omega
      rw [hi2, List.drop_length, pgoF] at ho
      have hz := fun h => call_of (h := h) (pg := pg) (f := 37) rfl (show D.canonL [intsD zs] = true by simp only [intsD, D.canonL, D.canon, ints_canon]; rfl) (@hidden_run zs (by omega) m (by omega))
      have hwi := @within_run m (by omega)
      simp only [intsD] at hz v7
      have hin : inB (zF zs) lo hi = (decide (lo ≤ (zF zs : Int)) && decide ((zF zs : Int) ≤ hi)) := rfl
      by_cases hq : zF zs = zs.length
      · have hq' : ((zF zs : Int) == (zs.length : Int)) = true := by simp [hq]
        simp [v7, v8, v9, hz, hwi, isF, h4, ho, hq, inB]
      · have hq' : ((zF zs : Int) == (zs.length : Int)) = false := by simp; omega
        simp [v7, hz, hq', isF, h4, ho, hq]
    · simp [v4, isF, ho]
  · have h4' : ((natsF l).2 != 0) = true := by simpa using h4
    simp [k13, Env.v_ini, rowsD, intsD, hnat, h4', isF, h4]
/-- A list is a reading of rows. -/
def RdF : List Rw → List Int → Prop
  | [], ys => ys = []
  | r :: l, ys =>
    if r.k = 1 ∨ r.k = 5 then RdF l ys
    else if r.k = 4 ∨ r.k = 6 then ∃ n : Nat, ((natF r).lo ≤ n ∧ (n : Int) ≤ (natF r).hi) ∧ n ≤ zF ys ∧ RdF l (ys.drop n)
    else if r.k = 2 then ∃ zs, ys = r.n :: zs ∧ RdF l zs
    else (∃ zs, ys = (r.n + r.m) :: zs ∧ RdF l zs) ∨ ∃ zs, ys = r.n :: r.m :: zs ∧ RdF l zs
theorem zF_cons (a : Int) (l : List Int) : zF (a :: l) = if a = 0 then zF l + 1 else 0 := rfl
theorem zF_drop : ∀ (l : List Int) (n : Nat), n ≤ zF l → zF (l.drop n) = zF l - n
  | _, 0, _ => by simp
  | [], n + 1, h => by simp [zF] at h
  | a :: l, n + 1, h => by
    rw [List.drop_succ_cons]
    rw [zF_cons] at h ⊢
    by_cases ha : a = 0
    · rw [if_pos ha] at h ⊢
      rw [zF_drop l n (by omega)]; omega
    · rw [if_neg ha] at h; omega
theorem zF_get : ∀ (l : List Int) (n : Nat), n < zF l → l[n]? = some 0
  | [], n, h => by simp [zF] at h
  | a :: l, n, h => by
    unfold zF at h
    split at h
    · rename_i ha
      cases n with
      | zero => simp [ha]
      | succ n => simpa using zF_get l n (by omega)
    · omega
theorem zF_stop : ∀ (l : List Int), zF l < l.length → ∃ a, l[zF l]? = some a ∧ a ≠ 0
  | [], h => by simp at h
  | a :: l, h => by
    unfold zF at h ⊢
    split
    · rename_i ha
      rw [if_pos ha] at h
      obtain ⟨b, h1, h2⟩ := zF_stop l (by simpa using h)
      exact ⟨b, by simpa using h1, h2⟩
    · rename_i ha
      exact ⟨a, by simp, ha⟩
/-- Where a thickness other than 0 stands behind zeros, all zeros are ahead of it. -/
theorem zF_head {l zs : List Int} {a : Int} {n : Nat} (ha : a ≠ 0) (hn : n ≤ zF l) (h : l.drop n = a :: zs) : n = zF l := by
  have h1 := zF_drop l n hn
  have h0 : zF (a :: zs) = 0 := by unfold zF; rw [if_neg ha]
  rw [h, h0] at h1
  omega
theorem pre_one (l : List Int) (a : Int) : preB l [a] = true ↔ ∃ zs, l = a :: zs ∧ l.drop 1 = zs := by
  cases l with
  | nil => simp [preB]
  | cons b l => simp [preB]
theorem pre_two (l : List Int) (a b : Int) : preB l [a, b] = true ↔ ∃ zs, l = a :: b :: zs ∧ l.drop 2 = zs := by
  match l with
  | [] => simp [preB]
  | [c] => simp [preB]
  | c :: d :: l => simp [preB]
theorem kind_of {r : Rw} (hv : (natF r).valid = true) (c1 : ¬ (r.k = 1 ∨ r.k = 5)) (c2 : ¬ (r.k = 4 ∨ r.k = 6)) (c3 : ¬ r.k = 2) : r.k = 3 := by
  refine kinds_cases r _ (fun h => absurd (.inl h) c1) (fun h => absurd h c3) id (fun h => absurd (.inl h) c2) (fun h => absurd (.inr h) c1) (fun h => absurd (.inr h) c2) ?_
  intro _ _ _ _ _ _ a1 a2 a3 a4 a5 a6; simp [natF, a1, a2, a3, a4, a5, a6] at hv
theorem pgo_reads : ∀ (l : List Rw) (ys : List Int) (lo hi : Int), okAll l = true → 0 ≤ lo → lo ≤ hi → (pgoF l ys lo hi = true ↔ ∃ n : Nat, (lo ≤ n ∧ (n : Int) ≤ hi) ∧ n ≤ zF ys ∧ RdF l (ys.drop n))
  | [], ys, lo, hi, _, _, _ => by
    have hz := zF_le ys
    simp only [pgoF, RdF, inB, Bool.and_eq_true, decide_eq_true_eq]
    constructor
    · rintro ⟨h1, h2⟩
      exact ⟨zF ys, h2, Nat.le_refl _, by rw [h1]; simp⟩
    · rintro ⟨n, h1, h2, h3⟩
      have h4 : ys.length ≤ n := by simpa using h3
      have : n = zF ys := by omega
      subst this
      exact ⟨by omega, h1⟩
  | r :: l, ys, lo, hi, hv, h0, hlh => by
    simp only [okAll, List.all_cons, Bool.and_eq_true] at hv
    have hbl := lo_bound r hv.1
    have hbh := hi_bound r hv.1
    have hle := lo_hi r hv.1
    unfold pgoF RdF
    by_cases c1 : r.k = 1 ∨ r.k = 5
    · simp only [if_pos c1]
      exact pgo_reads l ys lo hi hv.2 h0 hlh
    by_cases c2 : r.k = 4 ∨ r.k = 6
    · simp only [if_neg c1, if_pos c2]
      rw [pgo_reads l ys _ _ hv.2 (by omega) (by omega)]
      constructor
      · rintro ⟨n, h1, h2, h3⟩
        obtain ⟨a, ha⟩ : ∃ a : Nat, (a : Int) = max lo (n - (natF r).hi) := ⟨(max lo (n - (natF r).hi)).toNat, by omega⟩
        refine ⟨a, by omega, by omega, n - a, by omega, ?_, ?_⟩
        · rw [zF_drop _ _ (by omega)]; omega
        · rw [List.drop_drop, show a + (n - a) = n by omega]; exact h3
      · rintro ⟨a, h1, h2, b, h3, h4, h5⟩
        rw [zF_drop _ _ h2] at h4
        rw [List.drop_drop] at h5
        exact ⟨a + b, by omega, by omega, h5⟩
    simp only [if_neg c1, if_neg c2]
    have ih := fun zs => pgo_reads l zs 0 0 hv.2 (by omega) (by omega)
    have ih0 : ∀ zs, (pgoF l zs 0 0 = true ↔ RdF l zs) := fun zs => by
      rw [ih zs]
      constructor
      · rintro ⟨n, h1, _, h3⟩
        obtain rfl : n = 0 := by omega
        simpa using h3
      · intro h; exact ⟨0, by omega, by omega, by simpa using h⟩
    by_cases c3 : r.k = 2
    · simp only [if_pos c3]
      have hr : r.n ≠ 0 := by
        have := hv.1
        simp [natF, c3, thickB, inB] at this; omega
      constructor
      · intro h
        split at h
        · cases h
        · rename_i hb
          have hb : inB (zF ys) lo hi = true := by simpa using hb
          simp only [inB, Bool.and_eq_true, decide_eq_true_eq] at hb
          simp only [wayF, if_pos c3] at h
          by_cases hp : preB (ys.drop (zF ys)) [r.n] = true
          · rw [if_pos hp] at h
            obtain ⟨zs, h1, h2⟩ := (pre_one _ _).1 hp
            simp only [h2] at h
            exact ⟨zF ys, hb, Nat.le_refl _, zs, h1, (ih0 zs).1 h⟩
          · rw [if_neg hp] at h; cases h
      · rintro ⟨n, h1, h2, zs, h3, h4⟩
        have := zF_head hr h2 h3
        subst this
        have hb : inB (zF ys) lo hi = true := by simp [inB, h1]
        have hp : preB (ys.drop (zF ys)) [r.n] = true := (pre_one _ _).2 ⟨zs, h3, by rw [h3]; rfl⟩
        rw [hb]
        simp only [Bool.true_eq_false, if_false, wayF, if_pos c3, if_pos hp]
        rw [h3]
        exact (ih0 zs).2 h4
    · simp only [if_neg c3]
      have c3' := kind_of hv.1 c1 c2 c3
      have hr : 1 ≤ r.n ∧ 1 ≤ r.m := by
        have := hv.1
        simp [natF, c3', thickB, inB] at this; omega
      constructor
      · intro h
        split at h
        · cases h
        · rename_i hb
          have hb : inB (zF ys) lo hi = true := by simpa using hb
          simp only [inB, Bool.and_eq_true, decide_eq_true_eq] at hb
          simp only [wayF, if_neg c3] at h
          by_cases hp : preB (ys.drop (zF ys)) [r.n + r.m] = true
          · rw [if_pos hp] at h
            obtain ⟨zs, h1, h2⟩ := (pre_one _ _).1 hp
            simp only [h2] at h
            exact ⟨zF ys, hb, Nat.le_refl _, .inl ⟨zs, h1, (ih0 zs).1 h⟩⟩
          · rw [if_neg hp] at h
            by_cases hp2 : preB (ys.drop (zF ys)) [r.n, r.m] = true
            · rw [if_pos hp2] at h
              obtain ⟨zs, h1, h2⟩ := (pre_two _ _ _).1 hp2
              simp only [h2] at h
              exact ⟨zF ys, hb, Nat.le_refl _, .inr ⟨zs, h1, (ih0 zs).1 h⟩⟩
            · rw [if_neg hp2] at h; cases h
      · rintro ⟨n, h1, h2, ⟨zs, h3, h4⟩ | ⟨zs, h3, h4⟩⟩
        · have := zF_head (by omega) h2 h3
          subst this
          have hb : inB (zF ys) lo hi = true := by simp [inB, h1]
          have hp : preB (ys.drop (zF ys)) [r.n + r.m] = true := (pre_one _ _).2 ⟨zs, h3, by rw [h3]; rfl⟩
          rw [hb]
          simp only [Bool.true_eq_false, if_false, wayF, if_neg c3, if_pos hp]
          rw [h3]
          exact (ih0 zs).2 h4
        · have := zF_head (by omega) h2 h3
          subst this
          have hb : inB (zF ys) lo hi = true := by simp [inB, h1]
          have hp : ¬ preB (ys.drop (zF ys)) [r.n + r.m] = true := by
            intro hp
            obtain ⟨us, h5, _⟩ := (pre_one _ _).1 hp
            rw [h3] at h5
            have := (List.cons.inj h5).1
            omega
          have hp2 : preB (ys.drop (zF ys)) [r.n, r.m] = true := (pre_two _ _ _).2 ⟨zs, h3, by rw [h3]; rfl⟩
          rw [hb]
          simp only [Bool.true_eq_false, if_false, wayF, if_neg c3, if_neg hp, if_pos hp2]
          rw [h3]
          exact (ih0 zs).2 h4
theorem is_reads (l : List Rw) (ys : List Int) : isF l ys = true ↔ (natsF l).2 = 0 ∧ RdF l ys := by
  unfold isF
  rw [Bool.and_eq_true, decide_eq_true_eq]
  constructor
  · rintro ⟨h1, h2⟩
    obtain ⟨n, h3, _, h4⟩ := (pgo_reads l ys 0 0 (ok_of h1) (by omega) (by omega)).1 h2
    obtain rfl : n = 0 := by omega
    exact ⟨h1, by simpa using h4⟩
  · rintro ⟨h1, h2⟩
    exact ⟨h1, (pgo_reads l ys 0 0 (ok_of h1) (by omega) (by omega)).2 ⟨0, by omega, by omega, by simpa using h2⟩⟩
end Go.Proofs.YtdljcjbghinhiaaDoor
