/- The places that can be reached behind a row: hidden years. -/
import Derived.Test.YthgnholbajpdgaaDoorHid
namespace Go.Proofs.YthgnholbajpdgaaDoor
open Go Go.Em
set_option maxRecDepth 100000
def boolsD (o : List Bool) : D := .sl false (o.map D.bool)
def setB (o : List Bool) (j : Nat) : List Bool := o.take j ++ true :: o.drop (j + 1)
theorem setB_len {o : List Bool} {j : Nat} (h : j < o.length) : (setB o j).length = o.length := by
  unfold setB; simp; omega
theorem setB_get {o : List Bool} {j : Nat} (h : j < o.length) (i : Nat) : (setB o j).getD i false = true ↔ o.getD i false = true ∨ i = j := by
  have e : setB o j = o.set j true := by
    unfold setB; rw [List.set_eq_take_append_cons_drop, if_pos h]
  rw [e]
  simp only [List.getD_eq_getElem?_getD, List.getElem?_set]
  by_cases hij : j = i
  · subst hij; simp [h]
  · rw [if_neg hij]
    constructor
    · exact .inl
    · rintro (h | h)
      · exact h
      · exact absurd h.symm hij
theorem setB_map (o : List Bool) (j : Nat) : (o.map D.bool).take j ++ D.val (.bool true) :: (o.map D.bool).drop (j + 1) = (setB o j).map D.bool := by
  unfold setB; simp [List.map_take, List.map_drop]
/-- The frame of the step. -/
def STF (r : Rw) (ys : List Int) (at' : List Bool) (i : Nat) (x : Env 135) (h : Heap) (o : List Bool) : Prop :=
  x.v 0 = boolsD at' ∧ x.v 2 = intsD ys ∧ x.v 4 = .ptr 4 0 ∧ h.get 4 = some (.cells 23 [D.int r.k, D.int r.n, D.int r.m]) ∧ x.v 7 = .slr 149 0 at'.length 1 (some at'.length) ∧ h.get 149 = some (.cells 4 (o.map D.bool)) ∧ o.length = at'.length ∧ x.v 8 = D.int i
def THI (r : Rw) (ys : List Int) (at' : List Bool) (i : Nat) (O : Nat → Prop) (k : Nat) (s : St) : Prop := ∃ (x : Env 135) (h : Heap) (n : Nat) (o : List Bool), s = ⟨x.l, h, []⟩ ∧ n + k = zF (ys.drop i) + 1 ∧ STF r ys at' i x h o ∧ x.v 11 = D.int n ∧
  ∀ j, o.getD j false = true ↔ O j ∨ ∃ n', n' < n ∧ j = i + n' ∧ ((natF r).lo ≤ n' ∧ (n' : Int) ≤ (natF r).hi) ∧ j ≤ ys.length
def THQ (r : Rw) (ys : List Int) (at' : List Bool) (i : Nat) (O : Nat → Prop) (x : Ex) (s : St) : Prop := x = .exit 3 ∧ ∃ (x : Env 135) (h : Heap) (o : List Bool), s = ⟨x.l, h, []⟩ ∧ STF r ys at' i x h o ∧
  ∀ j, o.getD j false = true ↔ O j ∨ ∃ n', n' ≤ zF (ys.drop i) ∧ j = i + n' ∧ ((natF r).lo ≤ n' ∧ (n' : Int) ≤ (natF r).hi)
set_option maxHeartbeats 4000000 in
theorem hide_round (r : Rw) (ys : List Int) (at' : List Bool) (i : Nat) (O : Nat → Prop) (hval : (natF r).valid = true) (hys : ys.length ≤ 9000000000) (hat : at'.length = ys.length + 1) (hi : i ≤ ys.length) :
    ∀ n, 5 ≤ n → ∀ k s, THI r ys at' i O k s → Res (k96l0.ev ⟨pg, 135, none⟩ (rc pg n) s) (Rnd (THI r ys at' i O) (THQ r ys at' i O) k) := by
  rintro f hf k s ⟨x, h, n, o, rfl, hnk, ⟨v0, v2, v4, g4, v7, g149, hol, v8⟩, v11, hO⟩
  simp only [boolsD] at v0
  simp only [intsD] at v2
  have hzl := zF_le (ys.drop i)
  rw [List.length_drop] at hzl
  have hbl := lo_bound r hval
  have hbh := hi_bound r hval
  have hmo := fun h => call_of (h := h) (pg := pg) (f := 80) rfl (row_canon r) (@most_run f (by omega) r)
  have hle := fun h => call_of (h := h) (pg := pg) (f := 79) rfl (row_canon r) (@least_run f (by omega) r)
  simp only [rowD] at hmo hle
  have hw1 : IntKind.i64.wrap ((i : Int) + n) = (i : Int) + n := wrap_i64 (by omega) (by omega)
  have hw2 : IntKind.i64.wrap ((n : Int) + 1) = (n : Int) + 1 := wrap_i64 (by omega) (by omega)
  have hw3 : IntKind.i64.wrap ((i : Int) + n - 1) = (i : Int) + n - 1 := wrap_i64 (by omega) (by omega)
  have t3 : ((i : Int) + n).toNat = i + n := by omega
  have t4 : (0 : Int) ≤ (i : Int) + n := by omega
  have out : (∀ n', n' ≤ zF (ys.drop i) → (n' : Int) ≤ (natF r).hi → n' < n) → ∀ j, o.getD j false = true ↔ O j ∨ ∃ n', n' ≤ zF (ys.drop i) ∧ j = i + n' ∧ ((natF r).lo ≤ n' ∧ (n' : Int) ≤ (natF r).hi) := fun hh j => by
    rw [hO j]
    constructor
    · rintro (h | ⟨n', h1, h2, h3, h4⟩)
      · exact .inl h
      · exact .inr ⟨n', by omega, h2, h3⟩
    · rintro (h | ⟨n', h1, h2, h3⟩)
      · exact .inl h
      · exact .inr ⟨n', hh n' h1 h3.2, h2, h3, by omega⟩
  by_cases h1 : (n : Int) ≤ (natF r).hi
  · by_cases h2 : (i : Int) + n < at'.length
    · have h2' : i + n < at'.length := by omega
      have stepS : (natF r).lo ≤ n → ∀ j, (setB o (i + n)).getD j false = true ↔ O j ∨ ∃ n', n' < n + 1 ∧ j = i + n' ∧ ((natF r).lo ≤ n' ∧ (n' : Int) ≤ (natF r).hi) ∧ j ≤ ys.length := fun hlo j => by
        rw [setB_get (by omega), hO j]
        constructor
        · rintro ((h | ⟨n', h3, h4, h5, h6⟩) | h)
          · exact .inl h
          · exact .inr ⟨n', by omega, h4, h5, h6⟩
          · exact .inr ⟨n, by omega, h, ⟨hlo, h1⟩, by omega⟩
        · rintro (h | ⟨n', h3, h4, h5, h6⟩)
          · exact .inl (.inl h)
          · by_cases hn : n' = n
            · subst hn; exact .inr h4
            · exact .inl (.inr ⟨n', by omega, h4, h5, h6⟩)
      have stepN : ¬ (natF r).lo ≤ n → ∀ j, o.getD j false = true ↔ O j ∨ ∃ n', n' < n + 1 ∧ j = i + n' ∧ ((natF r).lo ≤ n' ∧ (n' : Int) ≤ (natF r).hi) ∧ j ≤ ys.length := fun hlo j => by
        rw [hO j]
        constructor
        · rintro (h | ⟨n', h3, h4, h5, h6⟩)
          · exact .inl h
          · exact .inr ⟨n', by omega, h4, h5, h6⟩
        · rintro (h | ⟨n', h3, h4, h5, h6⟩)
          · exact .inl h
          · by_cases hn : n' = n
            · subst hn; exact absurd h5.1 hlo
            · exact .inr ⟨n', by omega, h4, h5, h6⟩
      have hmap := setB_map o (i + n)
      have hsl : (setB o (i + n)).length = at'.length := by rw [setB_len (by omega), hol]
      have hol2 : i + n + 1 ≤ at'.length := by omega
      by_cases h3 : 0 < n
      · obtain ⟨u, hu⟩ : ∃ u, ys[i + n - 1]? = some u := by
          have : i + n - 1 < ys.length := by omega
          exact ⟨ys[i + n - 1], by rw [List.getElem?_eq_getElem this]⟩
        have h3' : (0 : Int) < n := by omega
        have t1 : (0 : Int) ≤ (i : Int) + n - 1 := by omega
        have t2 : ((i : Int) + n - 1).toNat = i + n - 1 := by omega
        have t1' : (1 : Int) ≤ (i : Int) + n := by omega
        by_cases h4 : u = 0
        · have h4' : (u != 0) = false := by simp [h4]
          have hnz : n ≤ zF (ys.drop i) := by
            apply Decidable.byContradiction; intro hne
            obtain ⟨b, hb1, hb2⟩ := zF_stop (ys.drop i) (by rw [List.length_drop]; omega)
            rw [List.getElem?_drop, show i + zF (ys.drop i) = i + n - 1 by omega, hu] at hb1
            exact hb2 ((Option.some.inj hb1).symm.trans h4)
          by_cases h5 : (natF r).lo ≤ n
          · simp [k96l0, v2, v4, g4, v7, g149, v8, v11, hmo, hle, h1, hw1, h2, D.cells, D.one, h5, t3, t4, hmap, hol, hol2, hw2, h3, hw3, t1', t2, hu, h4']
            exact ⟨k - 1, by omega, _, _, n + 1, setB o (i + n), rfl, by omega, ⟨by simp [v0, boolsD], by simp [v2, intsD], by simp [v4], by simp [g4], by simp [v7], by simp, hsl, by simp [v8]⟩, by simp, stepS h5⟩
          · simp [k96l0, v2, v4, g4, v7, v8, v11, hmo, hle, h1, hw1, h2, D.cells, h5, hw2, h3, hw3, t1', t2, hu, h4']
            exact ⟨k - 1, by omega, _, _, n + 1, o, rfl, by omega, ⟨by simp [v0, boolsD], by simp [v2, intsD], by simp [v4], by simp [g4], by simp [v7], by simp [g149], hol, by simp [v8]⟩, by simp, stepN h5⟩
        · have h4' : (u != 0) = true := by simp [h4]
          have hstop : n = zF (ys.drop i) + 1 := by
            apply Decidable.byContradiction; intro hne
            have := zF_get (ys.drop i) (n - 1) (by omega)
            rw [List.getElem?_drop, show i + (n - 1) = i + n - 1 by omega, hu] at this
            exact h4 (Option.some.inj this)
          simp [k96l0, v2, v4, g4, v7, v8, v11, hmo, h1, hw1, h2, h3, hw3, t1', t2, hu, D.cells, h4']
          exact ⟨rfl, _, _, o, rfl, ⟨by simp [v0, boolsD], by simp [v2, intsD], by simp [v4], by simp [g4], by simp [v7], by simp [g149], hol, by simp [v8]⟩, out fun n' h _ => by omega⟩
      · have h3' : ¬ (0 : Int) < n := by omega
        have hnz : n ≤ zF (ys.drop i) := by omega
        by_cases h5 : (natF r).lo ≤ n
        · simp [k96l0, v4, g4, v7, g149, v8, v11, hmo, hle, h1, hw1, h2, D.cells, D.one, h5, t3, t4, hmap, hol, hol2, hw2, h3]
          exact ⟨k - 1, by omega, _, _, n + 1, setB o (i + n), rfl, by omega, ⟨by simp [v0, boolsD], by simp [v2, intsD], by simp [v4], by simp [g4], by simp [v7], by simp, hsl, by simp [v8]⟩, by simp, stepS h5⟩
        · simp [k96l0, v4, g4, v7, v8, v11, hmo, hle, h1, hw1, h2, h5, hw2, h3]
          exact ⟨k - 1, by omega, _, _, n + 1, o, rfl, by omega, ⟨by simp [v0, boolsD], by simp [v2, intsD], by simp [v4], by simp [g4], by simp [v7], by simp [g149], hol, by simp [v8]⟩, by simp, stepN h5⟩
    · simp [k96l0, v4, g4, v7, v8, v11, hmo, h1, hw1, h2]
      exact ⟨rfl, _, _, o, rfl, ⟨by simp [v0, boolsD], by simp [v2, intsD], by simp [v4], by simp [g4], by simp [v7], by simp [g149], hol, by simp [v8]⟩, out fun n' h _ => by omega⟩
  · simp [k96l0, v4, g4, v11, hmo, h1]
    exact ⟨rfl, _, _, o, rfl, ⟨by simp [v0, boolsD], by simp [v2, intsD], by simp [v4], by simp [g4], by simp [v7], by simp [g149], hol, by simp [v8]⟩, out fun n' _ h => by omega⟩
end Go.Proofs.YthgnholbajpdgaaDoor
/- The places that can be reached behind a row. -/
namespace Go.Proofs.YthgnholbajpdgaaDoor
open Go Go.Em
set_option maxRecDepth 100000
/-- A row may read the numbers from a place to another one. -/
def RD (r : Rw) (ys : List Int) (i j : Nat) : Prop :=
  if r.k = 4 ∨ r.k = 6 then ∃ n, n ≤ zF (ys.drop i) ∧ j = i + n ∧ ((natF r).lo ≤ n ∧ (n : Int) ≤ (natF r).hi)
  else if r.k = 2 then j = i + 1 ∧ ys[i]? = some r.n
  else (j = i + 1 ∧ ys[i]? = some (r.n + r.m)) ∨ (j = i + 2 ∧ ys[i]? = some r.n ∧ ys[i + 1]? = some r.m)
/-- What can be reached from the places ahead of one. -/
def RO (r : Rw) (ys : List Int) (at' : List Bool) (i j : Nat) : Prop := ∃ i', i' < i ∧ at'.getD i' false = true ∧ RD r ys i' j
theorem RO_not {r : Rw} {ys : List Int} {at' : List Bool} {i : Nat} (h : at'.getD i false = false) (j : Nat) : RO r ys at' (i + 1) j ↔ RO r ys at' i j := by
  constructor
  · rintro ⟨i', h1, h2, h3⟩
    refine ⟨i', ?_, h2, h3⟩
    by_cases he : i' = i
    · subst he; rw [h] at h2; cases h2
    · omega
  · rintro ⟨i', h1, h2, h3⟩
    exact ⟨i', by omega, h2, h3⟩
theorem RO_and {r : Rw} {ys : List Int} {at' : List Bool} {i : Nat} (h : at'.getD i false = true) (j : Nat) : RO r ys at' (i + 1) j ↔ RO r ys at' i j ∨ RD r ys i j := by
  constructor
  · rintro ⟨i', h1, h2, h3⟩
    by_cases he : i' = i
    · subst he; exact .inr h3
    · exact .inl ⟨i', by omega, h2, h3⟩
  · rintro (⟨i', h1, h2, h3⟩ | h3)
    · exact ⟨i', by omega, h2, h3⟩
    · exact ⟨i, by omega, h, h3⟩
def TOI (r : Rw) (ys : List Int) (at' : List Bool) (k : Nat) (s : St) : Prop := ∃ (x : Env 135) (h : Heap) (i : Nat) (o : List Bool), s = ⟨x.l, h, []⟩ ∧ i + k = at'.length ∧ STF r ys at' i x h o ∧ ∀ j, o.getD j false = true ↔ RO r ys at' i j
set_option maxHeartbeats 8000000 in
theorem step_round (r : Rw) (ys : List Int) (at' : List Bool) (hval : (natF r).valid = true) (hk : r.k = 2 ∨ r.k = 3 ∨ r.k = 4 ∨ r.k = 6) (hys : ys.length ≤ 9000000000) (hat : at'.length = ys.length + 1) :
    ∀ n, ys.length + 10 ≤ n → ∀ k s, TOI r ys at' k s → Res (k96l1.ev ⟨pg, 135, none⟩ (rc pg n) s) (Rnd (TOI r ys at') (fun x s => x = .exit 0 ∧ TOI r ys at' 0 s) k) := by
  rintro f hf k s ⟨x, h, i, o, rfl, hik, hS, hO⟩
  have hS' := hS
  obtain ⟨v0, v2, v4, g4, v7, g149, hol, v8⟩ := hS
  simp only [boolsD] at v0
  simp only [intsD] at v2
  have hw1 : IntKind.i64.wrap ((i : Int) + 1) = (i : Int) + 1 := wrap_i64 (by omega) (by omega)
  by_cases hlt : i < at'.length
  · obtain ⟨b, hb⟩ : ∃ b, at'[i] = b := ⟨_, rfl⟩
    have hbd : at'.getD i false = b := by rw [List.getD_eq_getElem?_getD, List.getElem?_eq_getElem hlt, hb]; rfl
    cases b with
    | false =>
      simp [k96l1, v0, v8, hlt, hb, D.cells, hw1]
      exact ⟨k - 1, by omega, _, _, i + 1, o, rfl, by omega, ⟨by simp [v0, boolsD], by simp [v2, intsD], by simp [v4], by simp [g4], by simp [v7], by simp [g149], hol, by simp⟩, fun j => by rw [hO j, RO_not hbd]⟩
    | true =>
      have hOO : ∀ j, RO r ys at' (i + 1) j ↔ RO r ys at' i j ∨ RD r ys i j := RO_and hbd
      have hw2 : IntKind.i64.wrap ((i : Int) + 2) = (i : Int) + 2 := wrap_i64 (by omega) (by omega)
      have t1 : ((i : Int) + 1).toNat = i + 1 := by omega
      have t2 : ((i : Int) + 2).toNat = i + 2 := by omega
      have t3 : (0 : Int) ≤ (i : Int) + 1 := by omega
      have t4 : (0 : Int) ≤ (i : Int) + 2 := by omega
      rcases hk with hk | hk | hk | hk
      · have eRD : ∀ j, RD r ys i j ↔ j = i + 1 ∧ ys[i]? = some r.n := fun j => by simp [RD, hk]
        by_cases h1 : i < ys.length
        · obtain ⟨u, hu⟩ : ∃ u, ys[i] = u := ⟨_, rfl⟩
          have hu? : ys[i]? = some u := by rw [List.getElem?_eq_getElem h1, hu]
          have h1' : i + 1 < at'.length := by omega
          have h1'' : (i : Int) + 1 < at'.length := by omega
          have hmap := setB_map o (i + 1)
          have hol2 : i + 1 + 1 ≤ at'.length := by omega
          by_cases h2 : u = r.n
          · have h2' : (u == r.n) = true := by simp [h2]
            simp [k96l1, v0, v2, v4, g4, v7, g149, v8, hlt, hb, D.cells, D.one, hw1, h1, hu, hk, h2', t1, t3, h1'', hmap, hol, hol2]
            refine ⟨k - 1, by omega, _, _, i + 1, setB o (i + 1), rfl, by omega, ⟨by simp [v0, boolsD], by simp [v2, intsD], by simp [v4], by simp [g4], by simp [v7], by simp, by rw [setB_len (by omega), hol], by simp⟩, fun j => ?_⟩
            rw [setB_get (by omega), hO j, hOO, eRD, hu?, h2]; simp
          · have h2' : (u == r.n) = false := by simp [h2]
            simp [k96l1, v0, v2, v4, g4, v8, hlt, hb, D.cells, hw1, h1, hu, hk, h2']
            refine ⟨k - 1, by omega, _, _, i + 1, o, rfl, by omega, ⟨by simp [v0, boolsD], by simp [v2, intsD], by simp [v4], by simp [g4], by simp [v7], by simp [g149], hol, by simp⟩, fun j => ?_⟩
            rw [hO j, hOO, eRD, hu?]; simp [h2]
        · have hn? : ys[i]? = none := List.getElem?_eq_none (by omega)
          simp [k96l1, v0, v2, v4, g4, v8, hlt, hb, D.cells, hw1, h1, hk]
          refine ⟨k - 1, by omega, _, _, i + 1, o, rfl, by omega, ⟨by simp [v0, boolsD], by simp [v2, intsD], by simp [v4], by simp [g4], by simp [v7], by simp [g149], hol, by simp⟩, fun j => ?_⟩
          rw [hO j, hOO, eRD, hn?]; simp
      · have eRD : ∀ j, RD r ys i j ↔ (j = i + 1 ∧ ys[i]? = some (r.n + r.m)) ∨ (j = i + 2 ∧ ys[i]? = some r.n ∧ ys[i + 1]? = some r.m) := fun j => by simp [RD, hk]
        have hth : (1 ≤ r.n ∧ r.n ≤ 100000) ∧ (1 ≤ r.m ∧ r.m ≤ 100000) := by
          simp [natF, hk, thickB, inB] at hval; omega
        have hw3 : IntKind.i64.wrap (r.n + r.m) = r.n + r.m := wrap_i64 (by omega) (by omega)
        by_cases h1 : i < ys.length
        · obtain ⟨u, hu⟩ : ∃ u, ys[i] = u := ⟨_, rfl⟩
          have hu? : ys[i]? = some u := by rw [List.getElem?_eq_getElem h1, hu]
          have h1' : i + 1 < at'.length := by omega
          have h1'' : (i : Int) + 1 < at'.length := by omega
          have hmap := setB_map o (i + 1)
          have hol2 : i + 1 + 1 ≤ at'.length := by omega
          by_cases h2 : u = r.n + r.m
          · have h2' : (u == r.n + r.m) = true := by simp [h2]
            have h3' : (u == r.n) = false := by simp; omega
            have hne : ¬ r.n + r.m = r.n := by omega
            by_cases h4 : (i : Int) + 1 < ys.length
            · simp [k96l1, v0, v2, v4, g4, v7, g149, v8, hlt, hb, D.cells, D.one, hw1, hk, h1, hu, h2', h3', hw3, t1, t3, h1'', hmap, hol, hol2, h4]
              refine ⟨k - 1, by omega, _, _, i + 1, setB o (i + 1), rfl, by omega, ⟨by simp [v0, boolsD], by simp [v2, intsD], by simp [v4], by simp [g4], by simp [v7], by simp, by rw [setB_len (by omega), hol], by simp⟩, fun j => ?_⟩
              rw [setB_get (by omega), hO j, hOO, eRD, hu?, h2]; simp [hne]
            · simp [k96l1, v0, v2, v4, g4, v7, g149, v8, hlt, hb, D.cells, D.one, hw1, hk, h1, hu, h2', hw3, t1, t3, h1'', hmap, hol, hol2, h4]
              refine ⟨k - 1, by omega, _, _, i + 1, setB o (i + 1), rfl, by omega, ⟨by simp [v0, boolsD], by simp [v2, intsD], by simp [v4], by simp [g4], by simp [v7], by simp, by rw [setB_len (by omega), hol], by simp⟩, fun j => ?_⟩
              rw [setB_get (by omega), hO j, hOO, eRD, hu?, h2]; simp [hne]
          · have h2' : (u == r.n + r.m) = false := by simp [h2]
            by_cases h4 : (i : Int) + 1 < ys.length
            · have h4' : i + 1 < ys.length := by omega
              obtain ⟨w, hw⟩ : ∃ w, ys[i + 1] = w := ⟨_, rfl⟩
              have hw? : ys[i + 1]? = some w := by rw [List.getElem?_eq_getElem h4', hw]
              have h5' : i + 2 < at'.length := by omega
              have h5'' : (i : Int) + 2 < at'.length := by omega
              have hmap2 := setB_map o (i + 2)
              have hol3 : i + 2 + 1 ≤ at'.length := by omega
              by_cases h5 : u = r.n
              · have e5 : (u == r.n) = true := by simp [h5]
                by_cases h6 : w = r.m
                · have e6 : (w == r.m) = true := by simp [h6]
                  simp [k96l1, v0, v2, v4, g4, v7, g149, v8, hlt, hb, D.cells, D.one, hw1, hk, h1, hu, h2', hw3, t1, t2, t3, t4, h4, h4', hw, e5, e6, hw2, h5'', hmap2, hol, hol3]
                  refine ⟨k - 1, by omega, _, _, i + 1, setB o (i + 2), rfl, by omega, ⟨by simp [v0, boolsD], by simp [v2, intsD], by simp [v4], by simp [g4], by simp [v7], by simp, by rw [setB_len (by omega), hol], by simp⟩, fun j => ?_⟩
                  rw [setB_get (by omega), hO j, hOO, eRD, hu?, hw?]; simp [h5, h6]
                  have hne : ¬ r.n = r.n + r.m := by omega
                  simp [hne]
                · have e6 : (w == r.m) = false := by simp [h6]
                  simp [k96l1, v0, v2, v4, g4, v8, hlt, hb, D.cells, hw1, hk, h1, hu, h2', hw3, t1, t3, h4, h4', hw, e5, e6]
                  refine ⟨k - 1, by omega, _, _, i + 1, o, rfl, by omega, ⟨by simp [v0, boolsD], by simp [v2, intsD], by simp [v4], by simp [g4], by simp [v7], by simp [g149], hol, by simp⟩, fun j => ?_⟩
                  rw [hO j, hOO, eRD, hu?, hw?]; simp [h2, h6]
              · have e5 : (u == r.n) = false := by simp [h5]
                simp [k96l1, v0, v2, v4, g4, v8, hlt, hb, D.cells, hw1, hk, h1, hu, h2', hw3, h4, e5]
                refine ⟨k - 1, by omega, _, _, i + 1, o, rfl, by omega, ⟨by simp [v0, boolsD], by simp [v2, intsD], by simp [v4], by simp [g4], by simp [v7], by simp [g149], hol, by simp⟩, fun j => ?_⟩
                rw [hO j, hOO, eRD, hu?, hw?]; simp [h2, h5]
            · have hw? : ys[i + 1]? = none := List.getElem?_eq_none (by omega)
              simp [k96l1, v0, v2, v4, g4, v8, hlt, hb, D.cells, hw1, hk, h1, hu, h2', hw3, h4]
              refine ⟨k - 1, by omega, _, _, i + 1, o, rfl, by omega, ⟨by simp [v0, boolsD], by simp [v2, intsD], by simp [v4], by simp [g4], by simp [v7], by simp [g149], hol, by simp⟩, fun j => ?_⟩
              rw [hO j, hOO, eRD, hu?, hw?]; simp [h2]
        · have hn? : ys[i]? = none := List.getElem?_eq_none (by omega)
          have h4 : ¬ (i : Int) + 1 < ys.length := by omega
          simp [k96l1, v0, v2, v4, g4, v8, hlt, hb, D.cells, hw1, hk, h1, h4]
          refine ⟨k - 1, by omega, _, _, i + 1, o, rfl, by omega, ⟨by simp [v0, boolsD], by simp [v2, intsD], by simp [v4], by simp [g4], by simp [v7], by simp [g149], hol, by simp⟩, fun j => ?_⟩
          rw [hO j, hOO, eRD, hn?]; simp
      · have eRD : ∀ j, RD r ys i j ↔ ∃ n, n ≤ zF (ys.drop i) ∧ j = i + n ∧ ((natF r).lo ≤ n ∧ (n : Int) ≤ (natF r).hi) := fun j => by simp [RD, hk]
        have hzl := zF_le (ys.drop i)
        rw [List.length_drop] at hzl
        simp [k96l1, v0, v2, v4, g4, v8, hlt, hb, D.cells, hw1, hk, ev_loop]
        refine block3 (lp_rule 5 (THI r ys at' i (RO r ys at' i)) (THQ r ys at' i (RO r ys at' i)) (hide_round r ys at' i (RO r ys at' i) hval hys hat (by omega)) (zF (ys.drop i) + 1) f _ (by omega)
          ⟨_, _, 0, o, rfl, by omega, ⟨by simp [v0, boolsD], by simp [v2, intsD], by simp [v4], by simp [g4], by simp [v7], by simp [g149], hol, by simp [v8]⟩, by simp, fun j => by rw [hO j]; simp⟩) ?_
        rintro xx ss ⟨rfl, X, h2, o2, rfl, ⟨u0, u2, u4, u5, u7, u6, u9, u8⟩, hO2⟩
        simp [u8, hw1]
        exact ⟨k - 1, by omega, _, _, i + 1, o2, rfl, by omega, ⟨by simp [u0], by simp [u2], by simp [u4], by simp [u5], by simp [u7], by simp [u6], u9, by simp⟩, fun j => by rw [hO2 j, hOO, eRD]⟩
      · have eRD : ∀ j, RD r ys i j ↔ ∃ n, n ≤ zF (ys.drop i) ∧ j = i + n ∧ ((natF r).lo ≤ n ∧ (n : Int) ≤ (natF r).hi) := fun j => by simp [RD, hk]
        have hzl := zF_le (ys.drop i)
        rw [List.length_drop] at hzl
        simp [k96l1, v0, v2, v4, g4, v8, hlt, hb, D.cells, hw1, hk, ev_loop]
        refine block3 (lp_rule 5 (THI r ys at' i (RO r ys at' i)) (THQ r ys at' i (RO r ys at' i)) (hide_round r ys at' i (RO r ys at' i) hval hys hat (by omega)) (zF (ys.drop i) + 1) f _ (by omega)
          ⟨_, _, 0, o, rfl, by omega, ⟨by simp [v0, boolsD], by simp [v2, intsD], by simp [v4], by simp [g4], by simp [v7], by simp [g149], hol, by simp [v8]⟩, by simp, fun j => by rw [hO j]; simp⟩) ?_
        rintro xx ss ⟨rfl, X, h2, o2, rfl, ⟨u0, u2, u4, u5, u7, u6, u9, u8⟩, hO2⟩
        simp [u8, hw1]
        exact ⟨k - 1, by omega, _, _, i + 1, o2, rfl, by omega, ⟨by simp [u0], by simp [u2], by simp [u4], by simp [u5], by simp [u7], by simp [u6], u9, by simp⟩, fun j => by rw [hO2 j, hOO, eRD]⟩
  · simp [k96l1, v0, v8, hlt]
    exact ⟨_, _, i, o, rfl, by omega, ⟨by simp [v0, boolsD], by simp [v2, intsD], by simp [v4], by simp [g4], by simp [v7], by simp [g149], hol, by simp [v8]⟩, hO⟩
theorem falses_get (n j : Nat) : (List.replicate n false).getD j false = false := by
  rw [List.getD_eq_getElem?_getD, List.getElem?_replicate]; split <;> rfl
theorem chunkB : ∀ l : List Bool, chunk 1 l.length (l.map D.bool) = l.map D.bool
  | [] => rfl
  | a :: l => by
    rw [List.length_cons, List.map_cons, chunk, if_pos rfl]
    simp only [List.getD_cons_zero, List.drop_succ_cons, List.drop_zero]
    rw [chunkB l]
theorem bools_canon (l : List Bool) : D.canonL (l.map D.bool) = true := canonL_map D.bool (fun _ => rfl) l
theorem step_run (r : Rw) (ys : List Int) (at' : List Bool) (hval : (natF r).valid = true) (hk : r.k = 2 ∨ r.k = 3 ∨ r.k = 4 ∨ r.k = 6) (hys : ys.length ≤ 9000000000) (hat : at'.length = ys.length + 1) {n : Nat} (hn : 2 * ys.length + 30 ≤ n) :
    ∃ o, pureCall (rc pg n) 96 [boolsD at', rowD r, intsD ys] = some (.ret (boolsD o)) ∧ o.length = at'.length ∧ ∀ j, o.getD j false = true ↔ ∃ i, at'.getD i false = true ∧ RD r ys i j := by
  obtain ⟨m, rfl, e⟩ := body (pg := pg) (f := 96) (args := [boolsD at', rowD r, intsD ys]) (show 0 < n by omega) rfl rfl
  rw [e]
  have hroom : (at'.length : Int) ≤ room := by unfold room; omega
  have hrep : List.replicate at'.length (D.val (.bool false)) = (List.replicate at'.length false).map D.bool := by rw [List.map_replicate]
  obtain ⟨x, s, hx, rfl, x, h, i, o, rfl, hi, ⟨v0, v2, v4, g4, v7, g149, hol, v8⟩, hO⟩ := lp_rule (ys.length + 10) (TOI r ys at') _ (step_round r ys at' hval hk hys hat) at'.length m
    ⟨(((((((Env.ini 135 [boolsD at', rowD r, intsD ys]).upd 4 (.ptr 4 0)).upd 6 (.val (.slice none 0 0))).upd 12 (boolsD at')).upd 13 (D.int at'.length)).upd 14 (.slr 149 0 at'.length 1 (some at'.length))).upd 7 (.slr 149 0 at'.length 1 (some at'.length))).upd 8 (D.int 0) |>.l,
      ((((Heap.empty.bump 135).set 4 (some (.cells 23 [D.int r.k, D.int r.n, D.int r.m]))).bump 135).set 149 (some (.cells 4 (List.replicate at'.length (D.val (.bool false)))))).bump 135, []⟩ (by omega)
    ⟨_, _, 0, List.replicate at'.length false, rfl, by omega, ⟨by simp [Env.v_ini], by simp [Env.v_ini], by simp, by simp, by simp, by simp, by simp, by simp⟩, fun j => by
      rw [falses_get]
      constructor
      · intro h; cases h
      · rintro ⟨i', h1, _⟩; omega⟩
  have hi2 : i = at'.length := by omega
  refine ⟨o, ?_, hol, fun j => ?_⟩
  · simp only [boolsD, rowD, intsD] at hx
    have htk : (o.map D.bool).take at'.length = o.map D.bool := List.take_of_length_le (by simp; omega)
    have hch := chunkB o
    rw [hol] at hch
    have hcan := bools_canon o
    simp [k96, Env.v_ini, boolsD, rowD, intsD, D.cells, D.one, hroom, zeros_one, ev_loop, hx, v7, g149, htk, hch, each_canon, hcan, hol]
  · rw [hO j, hi2]
    constructor
    · rintro ⟨i', _, h2, h3⟩; exact ⟨i', h2, h3⟩
    · rintro ⟨i', h2, h3⟩
      refine ⟨i', ?_, h2, h3⟩
      apply Decidable.byContradiction; intro hge
      rw [List.getD_eq_getElem?_getD, List.getElem?_eq_none (by omega)] at h2
      cases h2
end Go.Proofs.YthgnholbajpdgaaDoor
/- Whether a list is a reading of rows, by the document. -/
namespace Go.Proofs.YthgnholbajpdgaaDoor
open Go Go.Em
set_option maxRecDepth 100000
theorem drop_cons {l : List Int} {p : Nat} {a : Int} {zs : List Int} : l.drop p = a :: zs ↔ l[p]? = some a ∧ zs = l.drop (p + 1) := by
  by_cases h : p < l.length
  · rw [List.drop_eq_getElem_cons h, List.getElem?_eq_getElem h]
    constructor
    · intro he; exact ⟨by rw [(List.cons.inj he).1], (List.cons.inj he).2.symm⟩
    · rintro ⟨h1, rfl⟩; rw [Option.some.inj h1]
  · rw [List.drop_eq_nil_of_le (by omega), List.getElem?_eq_none (by omega)]
    simp
theorem rd_cons (r : Rw) (l : List Rw) (ys : List Int) : RdF (r :: l) ys = (if r.k = 1 ∨ r.k = 5 then RdF l ys
    else if r.k = 4 ∨ r.k = 6 then ∃ n : Nat, ((natF r).lo ≤ n ∧ (n : Int) ≤ (natF r).hi) ∧ n ≤ zF ys ∧ RdF l (ys.drop n)
    else if r.k = 2 then ∃ zs, ys = r.n :: zs ∧ RdF l zs
    else (∃ zs, ys = (r.n + r.m) :: zs ∧ RdF l zs) ∨ ∃ zs, ys = r.n :: r.m :: zs ∧ RdF l zs) := rfl
theorem rd_step {r : Rw} (hv : (natF r).valid = true) (c1 : ¬ (r.k = 1 ∨ r.k = 5)) (l : List Rw) (ys : List Int) (p : Nat) : RdF (r :: l) (ys.drop p) ↔ ∃ q, RD r ys p q ∧ RdF l (ys.drop q) := by
  rw [rd_cons]
  unfold RD
  simp only [if_neg c1]
  by_cases c2 : r.k = 4 ∨ r.k = 6
  · simp only [if_pos c2]
    constructor
    · rintro ⟨n, h1, h2, h3⟩
      rw [List.drop_drop] at h3
      exact ⟨p + n, ⟨n, h2, rfl, h1⟩, h3⟩
    · rintro ⟨q, ⟨n, h2, rfl, h1⟩, h3⟩
      exact ⟨n, h1, h2, by rw [List.drop_drop]; exact h3⟩
  simp only [if_neg c2]
  by_cases c3 : r.k = 2
  · simp only [if_pos c3]
    constructor
    · rintro ⟨zs, h1, h2⟩
      obtain ⟨h3, rfl⟩ := drop_cons.1 h1
      exact ⟨p + 1, ⟨rfl, h3⟩, h2⟩
    · rintro ⟨q, ⟨rfl, h3⟩, h2⟩
      exact ⟨_, drop_cons.2 ⟨h3, rfl⟩, h2⟩
  · simp only [if_neg c3]
    constructor
    · rintro (⟨zs, h1, h2⟩ | ⟨zs, h1, h2⟩)
      · obtain ⟨h3, rfl⟩ := drop_cons.1 h1
        exact ⟨p + 1, .inl ⟨rfl, h3⟩, h2⟩
      · obtain ⟨h3, h4⟩ := drop_cons.1 h1
        obtain ⟨h5, rfl⟩ := drop_cons.1 h4.symm
        exact ⟨p + 2, .inr ⟨rfl, h3, h5⟩, h2⟩
    · rintro ⟨q, ⟨rfl, h3⟩ | ⟨rfl, h3, h5⟩, h2⟩
      · exact .inl ⟨_, drop_cons.2 ⟨h3, rfl⟩, h2⟩
      · exact .inr ⟨_, drop_cons.2 ⟨h3, (drop_cons.2 ⟨h5, rfl⟩).symm⟩, h2⟩
theorem rd_len : ∀ (l : List Rw) (ys : List Int), okAll l = true → RdF l ys → loSum l ≤ ys.length ∧ (ys.length : Int) ≤ hiSum l
  | [], ys, _, h => by
    unfold RdF at h; subst h; simp [loSum, hiSum]
  | r :: l, ys, hv, h => by
    simp only [okAll, List.all_cons, Bool.and_eq_true] at hv
    have ih := fun zs h => rd_len l zs hv.2 h
    rw [loSum_cons, hiSum_cons]
    rw [rd_cons] at h
    by_cases c1 : r.k = 1 ∨ r.k = 5
    · rw [if_pos c1] at h
      have e1 : (natF r).lo = 0 ∧ (natF r).hi = 0 := by rcases c1 with c1 | c1 <;> simp [natF, c1]
      have := ih ys h
      omega
    rw [if_neg c1] at h
    by_cases c2 : r.k = 4 ∨ r.k = 6
    · rw [if_pos c2] at h
      obtain ⟨n, h1, h2, h3⟩ := h
      have := ih _ h3
      have hz := zF_le ys
      rw [List.length_drop] at this
      omega
    rw [if_neg c2] at h
    by_cases c3 : r.k = 2
    · rw [if_pos c3] at h
      obtain ⟨zs, rfl, h3⟩ := h
      have e1 : (natF r).lo = 1 ∧ (natF r).hi = 1 := by simp [natF, c3]
      have := ih _ h3
      rw [List.length_cons]; omega
    · rw [if_neg c3] at h
      have c3' := kind_of hv.1 c1 c2 c3
      have e1 : (natF r).lo = 1 ∧ (natF r).hi = 2 := by simp [natF, c3']
      rcases h with ⟨zs, rfl, h3⟩ | ⟨zs, rfl, h3⟩
      · have := ih _ h3
        rw [List.length_cons]; omega
      · have := ih _ h3
        rw [List.length_cons, List.length_cons]; omega
/-- A list of truths, as it stands in the heap or as a tree. -/
def Ab (h : Heap) (d : D) (at' : List Bool) : Prop := d = boolsD at' ∨ ∃ k, d = .slr k 0 at'.length 1 (some at'.length) ∧ h.get k = some (.cells 4 (at'.map D.bool))
theorem Ab.bump {h : Heap} {d : D} {at' : List Bool} (g : Ab h d at') (n : Nat) : Ab (h.bump n) d at' := by
  rcases g with g | ⟨k, g1, g2⟩
  · exact .inl g
  · exact .inr ⟨k, g1, by rw [Heap.get_bump']; exact g2⟩
theorem step_call {h : Heap} {d : D} {at' : List Bool} (g : Ab h d at') (r : Rw) (ys : List Int) (hval : (natF r).valid = true) (hk : r.k = 2 ∨ r.k = 3 ∨ r.k = 4 ∨ r.k = 6) (hys : ys.length ≤ 9000000000) (hat : at'.length = ys.length + 1) {n : Nat} (hn : 2 * ys.length + 30 ≤ n) :
    ∃ o h', call pg (rc pg n) 96 [d, rowD r, intsD ys] h = some (.ret (boolsD o), h') ∧ o.length = at'.length ∧ ∀ j, o.getD j false = true ↔ ∃ i, at'.getD i false = true ∧ RD r ys i j := by
  obtain ⟨o, h1, h2, h3⟩ := step_run r ys at' hval hk hys hat hn
  have hs : pg.sh 96 = false := rfl
  have hc : D.canonL [rowD r, intsD ys] = true := by simp [rowD, intsD, ints_canon]
  have h12 : each (frz h depth) [rowD r, intsD ys] = some ([rowD r, intsD ys], []) := each_canon h 23 _ hc
  rcases g with rfl | ⟨k, rfl, hg⟩
  · have hb : frz h depth (boolsD at') = some (boolsD at', []) := frz_canon (by simp [boolsD, bools_canon])
    have hall : each (frz h depth) [boolsD at', rowD r, intsD ys] = some ([boolsD at', rowD r, intsD ys], []) := by
      unfold each; rw [hb, h12]; rfl
    refine ⟨o, h, ?_, h2, h3⟩
    unfold call
    rw [hs, hall]
    simp [h1]
  · have htk : (at'.map D.bool).take at'.length = at'.map D.bool := List.take_of_length_le (by simp)
    have hch := chunkB at'
    have hcan := bools_canon at'
    have hb : frz h depth (.slr k 0 at'.length 1 (some at'.length)) = some (boolsD at', [k]) := by
      show frz h (23 + 1) _ = _
      rw [frz_slr, hg, frzS_cells]; simp [htk, hch, each_canon _ 22 _ hcan, boolsD]
    have hall : each (frz h depth) [.slr k 0 at'.length 1 (some at'.length), rowD r, intsD ys] = some ([boolsD at', rowD r, intsD ys], [k]) := by
      unfold each; rw [hb, h12]; rfl
    refine ⟨o, (if ([k] : List Nat).isEmpty || (Out.ret (boolsD o)).d.flat then h else h.kill [k]), ?_, h2, h3⟩
    unfold call
    rw [hs, hall]
    simp only [h1, Bool.false_eq_true, if_false, Option.map_some]
def RII (l : List Rw) (ys : List Int) (k : Nat) (s : St) : Prop := ∃ (x : Env 54) (h : Heap) (i : Nat) (d : D) (at' : List Bool), s = ⟨x.l, h, []⟩ ∧ i + k = l.length ∧ x.v 0 = rowsD l ∧ x.v 1 = intsD ys ∧ x.v 9 = D.int i ∧ x.v 8 = d ∧ Ab h d at' ∧ at'.length = ys.length + 1 ∧
  (RdF l ys ↔ ∃ p, at'.getD p false = true ∧ RdF (l.drop i) (ys.drop p))
set_option maxHeartbeats 4000000 in
theorem ris_round (l : List Rw) (ys : List Int) (hl : l.length ≤ 400) (hv : okAll l = true) (hys : ys.length ≤ 9000000000) : ∀ n, 2 * ys.length + 40 ≤ n → ∀ k s, RII l ys k s → Res (k55l0.ev ⟨pg, 54, none⟩ (rc pg n) s) (Rnd (RII l ys) (fun x s => x = .exit 0 ∧ RII l ys 0 s) k) := by
  rintro n hn k s ⟨x, h, i, d, at', rfl, hik, v0, v1, v9, v8, hA, hat, hO⟩
  simp only [rowsD] at v0
  by_cases hlt : i < l.length
  · obtain ⟨r, hr⟩ : ∃ r, l[i] = r := ⟨l[i], rfl⟩
    have hd : l.drop i = r :: l.drop (i + 1) := by rw [List.drop_eq_getElem_cons hlt, hr]
    rw [hd] at hO
    have hval : (natF r).valid = true := by rw [← hr]; exact List.all_eq_true.1 hv _ (List.getElem_mem hlt)
    have hw1 : IntKind.i64.wrap ((i : Int) + 1) = (i : Int) + 1 := wrap_i64 (by omega) (by omega)
    have hmo := fun h => call_of (h := h) (pg := pg) (f := 80) rfl (row_canon r) (@most_run n (by omega) r)
    simp only [rowD] at hmo
    by_cases c1 : r.k = 1 ∨ r.k = 5
    · have e1 : ((natF r).hi == 0) = true := by rcases c1 with c1 | c1 <;> simp [natF, c1]
      have e2 : ∀ zs, RdF (r :: l.drop (i + 1)) zs ↔ RdF (l.drop (i + 1)) zs := fun zs => by
        have : RdF (r :: l.drop (i + 1)) zs = RdF (l.drop (i + 1)) zs := by rw [rd_cons, if_pos c1]
        rw [this]
      simp [k55l0, v0, v9, hlt, hr, rowD, D.cells, hmo, e1, hw1]
      exact ⟨k - 1, by omega, _, _, i + 1, d, at', rfl, by omega, by simp [v0, rowsD], by simp [v1], by simp, by simp [v8], ((hA.bump 54).bump 54).bump 54, hat, by simpa only [e2] using hO⟩
    · have hk : r.k = 2 ∨ r.k = 3 ∨ r.k = 4 ∨ r.k = 6 := by
        by_cases c2 : r.k = 4 ∨ r.k = 6
        · exact .inr (.inr c2)
        · by_cases c3 : r.k = 2
          · exact .inl c3
          · exact .inr (.inl (kind_of hval c1 c2 c3))
      have e1 : ((natF r).hi == 0) = false := by
        rcases hk with hk | hk | hk | hk <;> simp [natF, hk, inB, thickB] at hval ⊢ <;> omega
      obtain ⟨o, h', hc, hol, ho⟩ := step_call (((hA.bump 54).bump 54).bump 54) r ys hval hk hys hat (n := n) (by omega)
      simp only [rowD] at hc
      simp [k55l0, v0, v1, v9, v8, hlt, hr, rowD, D.cells, hmo, e1, hc, hw1]
      refine ⟨k - 1, by omega, _, _, i + 1, boolsD o, o, rfl, by omega, by simp [v0, rowsD], by simp [v1], by simp, by simp, .inl rfl, by omega, ?_⟩
      rw [hO]
      constructor
      · rintro ⟨p, h1, h2⟩
        obtain ⟨q, h3, h4⟩ := (rd_step hval c1 _ _ _).1 h2
        exact ⟨q, (ho q).2 ⟨p, h1, h3⟩, h4⟩
      · rintro ⟨q, h1, h2⟩
        obtain ⟨p, h3, h4⟩ := (ho q).1 h1
        exact ⟨p, h3, (rd_step hval c1 _ _ _).2 ⟨q, h4, h2⟩⟩
  · simp [k55l0, v0, v9, hlt]
    exact ⟨_, _, i, d, at', rfl, by omega, by simp [v0, rowsD], by simp [v1], by simp [v9], by simp [v8], hA.bump 54, hat, hO⟩
theorem ris_run (l : List Rw) (ys : List Int) (hys : ys.length ≤ 9000000000) {n : Nat} (hn : l.length + 2 * ys.length + 200 ≤ n) : pureCall (rc pg n) 55 [rowsD l, intsD ys] = some (.ret (D.bool (isF l ys))) := by
  obtain ⟨m, rfl, e⟩ := body (pg := pg) (f := 55) (args := [rowsD l, intsD ys]) (show 0 < n by omega) rfl rfl
  rw [e]
  have hy := fun h => call_of (h := h) (pg := pg) (f := 33) rfl (rows_canon l) (@years_run l m (by omega))
  simp only [rowsD] at hy
  by_cases h4 : (natsF l).2 = 0
  · have hyl : yearsF l = (loSum l, hiSum l, 0) := by unfold yearsF; rw [if_pos h4]
    have hv := ok_of h4
    have hl := len_of_ok h4
    rw [hyl] at hy
    by_cases h5 : hiSum l < ys.length
    · have hno : isF l ys = false := by
        cases hb : isF l ys with
        | false => rfl
        | true => have := rd_len l ys hv ((is_reads l ys).1 hb).2; omega
      simp [k55, Env.v_ini, rowsD, intsD, hy, h5, hno]
    · have hw : IntKind.i64.wrap ((ys.length : Int) + 1) = (ys.length : Int) + 1 := wrap_i64 (by omega) (by omega)
      have hroom : (ys.length : Int) + 1 ≤ room := by unfold room; omega
      have t1 : ((ys.length : Int) + 1).toNat = ys.length + 1 := by omega
      have t2 : (0 : Int) ≤ (ys.length : Int) + 1 := by omega
      have t3 : (0 : Int) < (ys.length : Int) + 1 := by omega
      simp [k55, Env.v_ini, rowsD, intsD, hy, h5, hw, zeros_one, hroom, t1, t2, t3, D.cells, D.one, ev_loop]
      refine Res.endsAfter (lp_rule (2 * ys.length + 40) (RII l ys) _ (ris_round l ys hl hv hys) l.length m _ (by omega) ⟨_, _, 0, .slr 189 0 (ys.length + 1) 1 (some (ys.length + 1)), true :: List.replicate ys.length false, rfl, by omega, by simp [Env.v_ini, rowsD], by simp [Env.v_ini, intsD], by simp, by simp, .inr ⟨189, by simp, by simp⟩, by simp, ?_⟩) ?_
      · constructor
        · intro h; exact ⟨0, by simp, by simpa using h⟩
        · rintro ⟨p, h1, h2⟩
          cases p with
          | zero => simpa using h2
          | succ p =>
            rw [List.getD_cons_succ, falses_get] at h1
            cases h1
      rintro x s ⟨rfl, x, h, i, d, at', rfl, hi, v0, v1, v9, v8, hA, hat, hO⟩
      have hi2 : i = l.length := by omega
      rw [hi2, List.drop_length] at hO
      simp only [intsD] at v1
      have hb : at'.getD ys.length false = isF l ys := by
        rw [Bool.eq_iff_iff, is_reads]
        constructor
        · intro h; exact ⟨h4, hO.2 ⟨ys.length, h, by rw [RdF, List.drop_length]⟩⟩
        · rintro ⟨_, h⟩
          obtain ⟨p, h1, h2⟩ := hO.1 h
          rw [RdF] at h2
          have h3 : ys.length ≤ p := by simpa using h2
          have h6 : p < at'.length := by
            apply Decidable.byContradiction; intro hge
            rw [List.getD_eq_getElem?_getD, List.getElem?_eq_none (by omega)] at h1
            cases h1
          have : p = ys.length := by omega
          rw [← this]; exact h1
      have hlt : ys.length < at'.length := by omega
      rw [List.getD_eq_getElem?_getD, List.getElem?_eq_getElem hlt] at hb
      simp only [Option.getD_some] at hb
      rcases hA with rfl | ⟨k, rfl, hg⟩
      · simp only [boolsD] at v8
        simp [v8, v1, hlt, hb, D.cells]
      · have hlt' : (ys.length : Int) < at'.length := by omega
        have hle : ys.length + 1 ≤ at'.length := by omega
        simp [v8, v1, hlt, hlt', hle, hg, hb]
  · have hyl : yearsF l = (0, 0, (natsF l).2) := by unfold yearsF; rw [if_neg h4]
    rw [hyl] at hy
    have h4' : ((natsF l).2 != 0) = true := by simpa using h4
    simp [k55, Env.v_ini, rowsD, intsD, hy, h4', isF, h4]
end Go.Proofs.YthgnholbajpdgaaDoor
/- Whatever rows and numbers it is called with, the code of SheetRaw returns true. -/
namespace Go.Proofs.YthgnholbajpdgaaDoor
open Go Go.Em
set_option maxRecDepth 100000
theorem cut_run (l : List Rw) {n : Nat} (hn : 1 ≤ n) : pureCall (rc pg n) 52 [rowsD l] = some (.ret (rowsD (l.take 60))) := by
  obtain ⟨m, rfl, e⟩ := body (pg := pg) (f := 52) (args := [rowsD l]) (show 0 < n by omega) rfl rfl
  rw [e]
  obtain ⟨c, hc⟩ : ∃ c : Nat, c = min l.length 60 := ⟨_, rfl⟩
  have hmin : min (l.length : Int) 60 = (c : Int) := by omega
  have hle : c ≤ l.length := by omega
  have hhead := rows_head l
  have htk : (l.map rowD).take c = (l.take 60).map rowD := by
    rw [List.map_take]
    rcases Nat.le_total l.length 60 with h | h
    · rw [List.take_of_length_le (by simp; omega), List.take_of_length_le (by simpa using h)]
    · rw [show c = 60 by omega]
  have hcan : D.canonL ((l.take 60).map rowD) = true := canonL_map rowD (fun _ => rfl) _
  simp [k52, Env.v_ini, rowsD, hmin, hle, hhead]
  rw [htk]
  simp
  rw [List.map_take] at hcan
  exact ⟨[], each_canon _ 22 _ hcan⟩
theorem raw_law (l : List Rw) (ys : List Int) {n : Nat} (hn : 5000 ≤ n) : pureCall (rc pg n) 12 [rowsD l, intsD ys] = some (.ret (D.bool true)) := by
  obtain ⟨m, hm, e⟩ := body (pg := pg) (f := 12) (args := [rowsD l, intsD ys]) (show 0 < n by omega) rfl rfl
  rw [e]
  have hs := @sane_call m (by omega)
  have a1 := fun h => call_of (h := h) (pg := pg) (f := 52) rfl (rows_canon l) (@cut_run l m (by omega))
  obtain ⟨c, hc⟩ : ∃ c : Nat, c = min ys.length 300 := ⟨_, rfl⟩
  have hmin : min (ys.length : Int) 300 = (c : Int) := by omega
  have hle : c ≤ ys.length := by omega
  have hhead := ints_head ys
  have hl60 : (l.take 60).length ≤ 60 := by rw [List.length_take]; omega
  have hl300 : (ys.take c).length ≤ 300 := by rw [List.length_take]; omega
  have hc2 : D.canonL [rowsD (l.take 60), intsD (ys.take c)] = true := by simp only [rowsD, intsD, D.canonL, D.canon, ints_canon, canonL_map rowD (fun _ => rfl) (l.take 60)]; rfl
  have b1 := fun h => call_of (h := h) (pg := pg) (f := 53) rfl hc2 (@is_run (l.take 60) (ys.take c) (by omega) m (by omega))
  have b2 := fun h => call_of (h := h) (pg := pg) (f := 55) rfl hc2 (@ris_run (l.take 60) (ys.take c) (by omega) m (by omega))
  simp only [intsD, List.map_take (i := c)] at b1 b2
  simp [k12, Env.v_ini, intsD, hs, a1, hmin, hle, hhead, b1, b2]
end Go.Proofs.YthgnholbajpdgaaDoor
