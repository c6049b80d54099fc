/- The places that can be reached behind a row: hidden years. -/
import Derived.Test.YtdljcjbghinhiaaDoorHid
namespace Go.Proofs.YtdljcjbghinhiaaDoor
open Go Go.Em
set_option maxRecDepth 100000
def boolsD (o : List Bool) : D := .sl false (o.map D.bool)
def setB (o : List Bool) (j : Nat) : List Bool := o.take j ++ true :: o.drop (j + 1)
theorem setB_len {o : List Bool} {j : Nat} (h : j < o.length) : (setB o j).length = o.length := by
  unfold setB; simp; omega
theorem setB_get {o : List Bool} {j : Nat} (h : j < o.length) (i : Nat) : (setB o j).getD i false = true ↔ o.getD i false = true ∨ i = j := by
  have e : setB o j = o.set j true := by
    unfold setB; rw [List.set_eq_take_append_cons_drop, if_pos h]
  rw [e]
  simp only [List.getD_eq_getElem?_getD, List.getElem?_set]
  by_cases hij : j = i
  · subst hij; simp [h]
  · rw [if_neg hij]
    constructor
    · exact .inl
    · rintro (h | h)
      · exact h
      · exact absurd h.symm hij
theorem setB_map (o : List Bool) (j : Nat) : (o.map D.bool).take j ++ D.val (.bool true) :: (o.map D.bool).drop (j + 1) = (setB o j).map D.bool := by
  unfold setB; simp [List.map_take, List.map_drop]
/-- The frame of the step. -/
def STF (r : Rw) (ys : List Int) (at' : List Bool) (i : Nat) (x : Env 135) (h : Heap) (o : List Bool) : Prop :=
  x.v 0 = boolsD at' ∧ x.v 2 = intsD ys ∧ x.v 4 = .ptr 4 0 ∧ h.get 4 = some (.cells 80 [D.int r.k, D.int r.n, D.int r.m]) ∧ x.v 7 = .slr 149 0 at'.length 1 (some at'.length) ∧ h.get 149 = some (.cells 4 (o.map D.bool)) ∧ o.length = at'.length ∧ x.v 8 = D.int i
def THI (r : Rw) (ys : List Int) (at' : List Bool) (i : Nat) (O : Nat → Prop) (k : Nat) (s : St) : Prop := ∃ (x : Env 135) (h : Heap) (n : Nat) (o : List Bool), s = ⟨x.l, h, []⟩ ∧ n + k = zF (ys.drop i) + 1 ∧ STF r ys at' i x h o ∧ x.v 11 = D.int n ∧
  ∀ j, o.getD j false = true ↔ O j ∨ ∃ n', n' < n ∧ j = i + n' ∧ ((natF r).lo ≤ n' ∧ (n' : Int) ≤ (natF r).hi) ∧ j ≤ ys.length
def THQ (r : Rw) (ys : List Int) (at' : List Bool) (i : Nat) (O : Nat → Prop) (x : Ex) (s : St) : Prop := x = .exit 3 ∧ ∃ (x : Env 135) (h : Heap) (o : List Bool), s = ⟨x.l, h, []⟩ ∧ STF r ys at' i x h o ∧
  ∀ j, o.getD j false = true ↔ O j ∨ ∃ n', n' ≤ zF (ys.drop i) ∧ j = i + n' ∧ ((natF r).lo ≤ n' ∧ (n' : Int) ≤ (natF r).hi)
end Go.Proofs.YtdljcjbghinhiaaDoor
/- The places that can be reached behind a row. -/
namespace Go.Proofs.YtdljcjbghinhiaaDoor
open Go Go.Em
set_option maxRecDepth 100000
/-- A row may read the numbers from a place to another one. -/
def RD (r : Rw) (ys : List Int) (i j : Nat) : Prop :=
  if r.k = 4 ∨ r.k = 6 then ∃ n, n ≤ zF (ys.drop i) ∧ j = i + n ∧ ((natF r).lo ≤ n ∧ (n : Int) ≤ (natF r).hi)
  else if r.k = 2 then j = i + 1 ∧ ys[i]? = some r.n
  else (j = i + 1 ∧ ys[i]? = some (r.n + r.m)) ∨ (j = i + 2 ∧ ys[i]? = some r.n ∧ ys[i + 1]? = some r.m)
/-- What can be reached from the places ahead of one. -/
def RO (r : Rw) (ys : List Int) (at' : List Bool) (i j : Nat) : Prop := ∃ i', i' < i ∧ at'.getD i' false = true ∧ RD r ys i' j
theorem RO_not {r : Rw} {ys : List Int} {at' : List Bool} {i : Nat} (h : at'.getD i false = false) (j : Nat) : RO r ys at' (i + 1) j ↔ RO r ys at' i j := by
  constructor
  · rintro ⟨i', h1, h2, h3⟩
    refine ⟨i', ?_, h2, h3⟩
    by_cases he : i' = i
    · subst he; rw [h] at h2; cases h2
    · omega
  · rintro ⟨i', h1, h2, h3⟩
    exact ⟨i', by omega, h2, h3⟩
theorem RO_and {r : Rw} {ys : List Int} {at' : List Bool} {i : Nat} (h : at'.getD i false = true) (j : Nat) : RO r ys at' (i + 1) j ↔ RO r ys at' i j ∨ RD r ys i j := by
  constructor
  · rintro ⟨i', h1, h2, h3⟩
    by_cases he : i' = i
    · subst he; exact .inr h3
    · exact .inl ⟨i', by omega, h2, h3⟩
  · rintro (⟨i', h1, h2, h3⟩ | h3)
    · exact ⟨i', by omega, h2, h3⟩
    · exact ⟨i, by omega, h, h3⟩
def TOI (r : Rw) (ys : List Int) (at' : List Bool) (k : Nat) (s : St) : Prop := ∃ (x : Env 135) (h : Heap) (i : Nat) (o : List Bool), s = ⟨x.l, h, []⟩ ∧ i + k = at'.length ∧ STF r ys at' i x h o ∧ ∀ j, o.getD j false = true ↔ RO r ys at' i j
theorem falses_get (n j : Nat) : (List.replicate n false).getD j false = false := by
  rw [List.getD_eq_getElem?_getD, List.getElem?_replicate]; split <;> rfl
theorem chunkB : ∀ l : List Bool, chunk 1 l.length (l.map D.bool) = l.map D.bool
  | [] => rfl
  | a :: l => by
    rw [List.length_cons, List.map_cons, chunk, if_pos rfl]
    simp only [List.getD_cons_zero, List.drop_succ_cons, List.drop_zero]
    rw [chunkB l]
theorem bools_canon (l : List Bool) : D.canonL (l.map D.bool) = true := canonL_map D.bool (fun _ => rfl) l
end Go.Proofs.YtdljcjbghinhiaaDoor
/- Whether a list is a reading of rows, by the document. -/
namespace Go.Proofs.YtdljcjbghinhiaaDoor
open Go Go.Em
set_option maxRecDepth 100000
theorem drop_cons {l : List Int} {p : Nat} {a : Int} {zs : List Int} : l.drop p = a :: zs ↔ l[p]? = some a ∧ zs = l.drop (p + 1) := by
  by_cases h : p < l.length
  · rw [List.drop_eq_getElem_cons h, List.getElem?_eq_getElem h]
    constructor
    · intro he; exact ⟨by rw [(List.cons.inj he).1], (List.cons.inj he).2.symm⟩
    · rintro ⟨h1, rfl⟩; rw [Option.some.inj h1]
  · rw [List.drop_eq_nil_of_le (by omega), List.getElem?_eq_none (by omega)]
    simp
theorem rd_cons (r : Rw) (l : List Rw) (ys : List Int) : RdF (r :: l) ys = (if r.k = 1 ∨ r.k = 5 then RdF l ys
    else if r.k = 4 ∨ r.k = 6 then ∃ n : Nat, ((natF r).lo ≤ n ∧ (n : Int) ≤ (natF r).hi) ∧ n ≤ zF ys ∧ RdF l (ys.drop n)
    else if r.k = 2 then ∃ zs, ys = r.n :: zs ∧ RdF l zs
    else (∃ zs, ys = (r.n + r.m) :: zs ∧ RdF l zs) ∨ ∃ zs, ys = r.n :: r.m :: zs ∧ RdF l zs) := rfl
theorem rd_step {r : Rw} (hv : (natF r).valid = true) (c1 : ¬ (r.k = 1 ∨ r.k = 5)) (l : List Rw) (ys : List Int) (p : Nat) : RdF (r :: l) (ys.drop p) ↔ ∃ q, RD r ys p q ∧ RdF l (ys.drop q) := by
  rw [rd_cons]
  unfold RD
  simp only [if_neg c1]
  by_cases c2 : r.k = 4 ∨ r.k = 6
  · simp only [if_pos c2]
    constructor
    · rintro ⟨n, h1, h2, h3⟩
      rw [List.drop_drop] at h3
      exact ⟨p + n, ⟨n, h2, rfl, h1⟩, h3⟩
    · rintro ⟨q, ⟨n, h2, rfl, h1⟩, h3⟩
      exact ⟨n, h1, h2, by rw [List.drop_drop]; exact h3⟩
  simp only [if_neg c2]
  by_cases c3 : r.k = 2
  · simp only [if_pos c3]
    constructor
    · rintro ⟨zs, h1, h2⟩
      obtain ⟨h3, rfl⟩ := drop_cons.1 h1
      exact ⟨p + 1, ⟨rfl, h3⟩, h2⟩
    · rintro ⟨q, ⟨rfl, h3⟩, h2⟩
      exact ⟨_, drop_cons.2 ⟨h3, rfl⟩, h2⟩
  · simp only [if_neg c3]
    constructor
    · rintro (⟨zs, h1, h2⟩ | ⟨zs, h1, h2⟩)
      · obtain ⟨h3, rfl⟩ := drop_cons.1 h1
        exact ⟨p + 1, .inl ⟨rfl, h3⟩, h2⟩
      · obtain ⟨h3, h4⟩ := drop_cons.1 h1
        obtain ⟨h5, rfl⟩ := drop_cons.1 h4.symm
        exact ⟨p + 2, .inr ⟨rfl, h3, h5⟩, h2⟩
    · rintro ⟨q, ⟨rfl, h3⟩ | ⟨rfl, h3, h5⟩, h2⟩
      · exact .inl ⟨_, drop_cons.2 ⟨h3, rfl⟩, h2⟩
      · exact .inr ⟨_, drop_cons.2 ⟨h3, (drop_cons.2 ⟨h5, rfl⟩).symm⟩, h2⟩
theorem rd_len : ∀ (l : List Rw) (ys : List Int), okAll l = true → RdF l ys → loSum l ≤ ys.length ∧ (ys.length : Int) ≤ hiSum l
  | [], ys, _, h => by
    unfold RdF at h; subst h; simp [loSum, hiSum]
  | r :: l, ys, hv, h => by
    simp only [okAll, List.all_cons, Bool.and_eq_true] at hv
    have ih := fun zs h => rd_len l zs hv.2 h
    rw [loSum_cons, hiSum_cons]
    rw [rd_cons] at h
    by_cases c1 : r.k = 1 ∨ r.k = 5
    · rw [if_pos c1] at h
      have e1 : (natF r).lo = 0 ∧ (natF r).hi = 0 := by rcases c1 with c1 | c1 <;> simp [natF, c1]
      have := ih ys h
      omega
    rw [if_neg c1] at h
    by_cases c2 : r.k = 4 ∨ r.k = 6
    · rw [if_pos c2] at h
      obtain ⟨n, h1, h2, h3⟩ := h
      have := ih _ h3
      have hz := zF_le ys
      rw [List.length_drop] at this
      omega
    rw [if_neg c2] at h
    by_cases c3 : r.k = 2
    · rw [if_pos c3] at h
      obtain ⟨zs, rfl, h3⟩ := h
      have e1 : (natF r).lo = 1 ∧ (natF r).hi = 1 := by simp [natF, c3]
      have := ih _ h3
      rw [List.length_cons]; omega
    · rw [if_neg c3] at h
      have c3' := kind_of hv.1 c1 c2 c3
      have e1 : (natF r).lo = 1 ∧ (natF r).hi = 2 := by simp [natF, c3']
      rcases h with ⟨zs, rfl, h3⟩ | ⟨zs, rfl, h3⟩
      · have := ih _ h3
        rw [List.length_cons]; omega
      · have := ih _ h3
        rw [List.length_cons, List.length_cons]; omega
/-- A list of truths, as it stands in the heap or as a tree. -/
def Ab (h : Heap) (d : D) (at' : List Bool) : Prop := d = boolsD at' ∨ ∃ k, d = .slr k 0 at'.length 1 (some at'.length) ∧ h.get k = some (.cells 4 (at'.map D.bool))
theorem Ab.bump {h : Heap} {d : D} {at' : List Bool} (g : Ab h d at') (n : Nat) : Ab (h.bump n) d at' := by
  rcases g with g | ⟨k, g1, g2⟩
  · exact .inl g
  · exact .inr ⟨k, g1, by rw [Heap.get_bump']; exact g2⟩
def RII (l : List Rw) (ys : List Int) (k : Nat) (s : St) : Prop := ∃ (x : Env 54) (h : Heap) (i : Nat) (d : D) (at' : List Bool), s = ⟨x.l, h, []⟩ ∧ i + k = l.length ∧ x.v 0 = rowsD l ∧ x.v 1 = intsD ys ∧ x.v 9 = D.int i ∧ x.v 8 = d ∧ Ab h d at' ∧ at'.length = ys.length + 1 ∧
  (RdF l ys ↔ ∃ p, at'.getD p false = true ∧ RdF (l.drop i) (ys.drop p))
end Go.Proofs.YtdljcjbghinhiaaDoor
/- Whatever rows and numbers it is called with, the code of SheetRaw returns true. -/
namespace Go.Proofs.YtdljcjbghinhiaaDoor
open Go Go.Em
set_option maxRecDepth 100000
theorem cut_run (l : List Rw) {n : Nat} (hn : 1 ≤ n) : pureCall (rc pg n) 9 [rowsD l] = some (.ret (rowsD (l.take 60))) := by
  obtain ⟨m, rfl, e⟩ := body (pg := pg) (f := 9) (args := [rowsD l]) (show 0 < n by omega) rfl rfl
  rw [e]
  obtain ⟨c, hc⟩ : ∃ c : Nat, c = min l.length 60 := ⟨_, rfl⟩
  have hmin : min (l.length : Int) 60 = (c : Int) := by omega
  have hle : c ≤ l.length := by omega
  have hhead := rows_head l
  have htk : (l.map rowD).take c = (l.take 60).map rowD := by
    rw [List.map_take]
    rcases Nat.le_total l.length 60 with h | h
    · rw [List.take_of_length_le (by simp; omega), List.take_of_length_le (by simpa using h)]
    · rw [show c = 60 by omega]
  have hcan : D.canonL ((l.take 60).map rowD) = true := canonL_map rowD (fun _ => rfl) _
  simp [k9, Env.v_ini, rowsD, hmin, hle, hhead]
  rw [htk]
  simp
  rw [List.map_take] at hcan
  exact ⟨[], each_canon _ 22 _ hcan⟩
end Go.Proofs.YtdljcjbghinhiaaDoor
