/- The document's own answers: rows and their years. -/
import Derived.Test.YtdljcjbghinhiaaDoorCheck
namespace Go.Proofs.YtdljcjbghinhiaaDoor
open Go Go.Em
set_option maxRecDepth 100000
def rowErr (r : Rw) : Int := if (natF r).valid = true then 0 else 10
theorem kinds_cases (r : Rw) (P : Prop) (h1 : r.k = 1 → P) (h2 : r.k = 2 → P) (h3 : r.k = 3 → P) (h4 : r.k = 4 → P) (h5 : r.k = 5 → P) (h6 : r.k = 6 → P)
    (h0 : (r.k == 1) = false → (r.k == 2) = false → (r.k == 3) = false → (r.k == 4) = false → (r.k == 5) = false → (r.k == 6) = false → r.k ≠ 1 → r.k ≠ 2 → r.k ≠ 3 → r.k ≠ 4 → r.k ≠ 5 → r.k ≠ 6 → P) : P := by
  by_cases a1 : r.k = 1
  · exact h1 a1
  by_cases a2 : r.k = 2
  · exact h2 a2
  by_cases a3 : r.k = 3
  · exact h3 a3
  by_cases a4 : r.k = 4
  · exact h4 a4
  by_cases a5 : r.k = 5
  · exact h5 a5
  by_cases a6 : r.k = 6
  · exact h6 a6
  exact h0 (by simpa using a1) (by simpa using a2) (by simpa using a3) (by simpa using a4) (by simpa using a5) (by simpa using a6) a1 a2 a3 a4 a5 a6
def loSum (l : List Rw) : Int := (l.map fun r => (natF r).lo).sum
theorem loSum_snoc (l : List Rw) (r : Rw) : loSum (l ++ [r]) = loSum l + (natF r).lo := by simp [loSum]
theorem lo_bound (r : Rw) (hv : (natF r).valid = true) : 0 ≤ (natF r).lo ∧ (natF r).lo ≤ 1000 := by
  unfold natF at hv ⊢
  repeat' split
  all_goals simp_all [inB]
  all_goals omega
theorem loSum_bound : ∀ (l : List Rw), okAll l = true → 0 ≤ loSum l ∧ loSum l ≤ 1000 * l.length
  | [], _ => by simp [loSum]
  | r :: l, h => by
    simp only [okAll, List.all_cons, Bool.and_eq_true] at h
    have h1 := lo_bound r h.1
    have h2 := loSum_bound l h.2
    have e : loSum (r :: l) = (natF r).lo + loSum l := by simp [loSum]
    rw [e, List.length_cons]
    omega
/-- The document's years of rows. -/
def yearsF (l : List Rw) : Int × Int × Int := if (natsF l).2 = 0 then (loSum l, hiSum l, 0) else (0, 0, (natsF l).2)
def YI (l : List Rw) (k : Nat) (s : St) : Prop := ∃ (x : Env 41) (h : Heap) (i : Nat), s = ⟨x.l, h, []⟩ ∧ i + k = l.length ∧ x.v 0 = rowsD l ∧ x.v 7 = D.int i ∧ x.v 5 = D.int (loSum (l.take i)) ∧ x.v 6 = D.int (hiSum (l.take i)) ∧ okAll (l.take i) = true
def YQ (l : List Rw) (x : Ex) (s : St) : Prop :=
  (x = .exit 0 ∧ YI l 0 s) ∨ (x = .ret ∧ okAll l = false ∧ ∃ (x : Env 41) (h : Heap), s = ⟨x.l, h, []⟩ ∧ x.v 2 = D.int 0 ∧ x.v 3 = D.int 0 ∧ x.v 4 = D.int 10)
end Go.Proofs.YtdljcjbghinhiaaDoor
/- The document's own answers: years, and whether a sheet is valid. -/
namespace Go.Proofs.YtdljcjbghinhiaaDoor
open Go Go.Em
set_option maxRecDepth 100000
/-- The document's order of marks: their numbers rise. -/
def ordN (last : Int) : List Rw → Bool
  | [] => true
  | r :: l => if r.k = 1 then (if r.n ≤ last then false else ordN r.n l) else ordN last l
/-- It is the order of the marks themselves. -/
theorem ord_same (c : Int) (hc : 0 ≤ c ∧ c ≤ 31) : ∀ (l : List Rw) (last : Int), okAll l = true → -1 ≤ last → last ≤ 63 → ordF c (if last = -1 then -1 else 64 * c + last + 1) l = ordN last l
  | [], _, _, _, _ => rfl
  | r :: l, last, hv, h1, h2 => by
    simp only [okAll, List.all_cons, Bool.and_eq_true] at hv
    have ih := fun last => ord_same c hc l last hv.2
    by_cases hk : r.k = 1
    · have hr : 0 ≤ r.n ∧ r.n ≤ 63 := by
        have := hv.1
        simp [natF, hk, inB] at this
        omega
      have hm : markF c r.n = 64 * c + r.n + 1 := by unfold markF; rw [if_pos ⟨hc, hr⟩]
      have i2 := ih r.n (by omega) (by omega)
      rw [if_neg (by omega)] at i2
      simp only [ordF, ordN, hk, if_true, hm]
      by_cases hle : r.n ≤ last
      · rw [if_pos hle, if_pos (by split <;> omega)]
      · rw [if_neg hle, if_neg (by split <;> omega), i2]
    · simp only [ordF, ordN, hk, if_false]
      exact ih last h1 h2
def RI (sc : List D) (l : List Rw) (k : Nat) (s : St) : Prop := ∃ (x : Env 62) (h : Heap) (i : Nat) (last : Int), s = ⟨x.l, h, []⟩ ∧ i + k = l.length ∧ h.get 1 = some (.cells 36 sc) ∧ x.v 1 = .ptr 1 0 ∧ x.v 7 = D.int i ∧ x.v 6 = D.int last ∧ ordN (-1) l = ordN last (l.drop i)
def RQ (l : List Rw) (x : Ex) (s : St) : Prop :=
  (x = .exit 0 ∧ ordN (-1) l = true ∧ ∃ (x : Env 62) (h : Heap), s = ⟨x.l, h, []⟩) ∨ (x = .ret ∧ ordN (-1) l = false ∧ ∃ (x : Env 62) (h : Heap), s = ⟨x.l, h, []⟩ ∧ x.v 2 = D.int 15)
end Go.Proofs.YtdljcjbghinhiaaDoor
/- The document's own answers: whether a sheet is valid; its marks and places. -/
namespace Go.Proofs.YtdljcjbghinhiaaDoor
open Go Go.Em
set_option maxRecDepth 100000
theorem ok_of {l : List Rw} (h : (natsF l).2 = 0) : okAll l = true := by
  unfold natsF at h
  split at h
  · simp at h
  · split at h
    · simp at h
    · rename_i h1; simpa using h1
theorem chk_ord {i r c : Int} {l : List Rw} (h1 : inB i 1 99999 = true) (h2 : inB r 1 99 = true) (h3 : inB c 0 31 = true) (h4 : (natsF l).2 = 0) : chkF i r c l = if ordN (-1) l = true then 0 else 15 := by
  have hc : 0 ≤ c ∧ c ≤ 31 := by simpa [inB] using h3
  have := ord_same c hc l (-1) (ok_of h4) (by omega) (by omega)
  simp only [if_true] at this
  simp [chkF, h1, h2, h3, h4, this]
/-- The marks of rows, from a mark on. -/
def marksF (c : Int) (l : List Rw) : List Int := (l.filter fun r => r.k == 1).map fun r => markF c r.n
theorem marks_snoc (c : Int) (l : List Rw) (r : Rw) : marksF c (l ++ [r]) = marksF c l ++ (if r.k = 1 then [markF c r.n] else []) := by
  unfold marksF
  rw [List.filter_append, List.map_append]
  by_cases h : r.k = 1 <;> simp [h]
theorem marks_len (c : Int) (l : List Rw) : (marksF c l).length ≤ l.length := by
  unfold marksF; rw [List.length_map]; exact List.length_filter_le _ _
/-- A list of numbers that grows by append. -/
def Gl (h : Heap) (d : D) (l : List Int) : Prop := (l = [] ∧ d = .val (.slice none 0 0)) ∨ ∃ k, d = .slr k 0 l.length 1 none ∧ h.get k = some (.cells 3 (l.map D.int)) ∧ k < h.next ∧ 1 < k
end Go.Proofs.YtdljcjbghinhiaaDoor
