/- Readings have as many years as they may have, and each such number is attained. -/
import Derived.Test.YtdljcjbghinhiaaDoorStep
namespace Go.Proofs.YtdljcjbghinhiaaDoor
open Go Go.Em
set_option maxRecDepth 100000
theorem zF_zeros : ∀ (n : Nat) (l : List Int), n ≤ zF (List.replicate n 0 ++ l)
  | 0, _ => Nat.zero_le _
  | n + 1, l => by
    rw [List.replicate_succ, List.cons_append, zF_cons, if_pos rfl]
    have := zF_zeros n l
    omega
/-- A reading that numbers choose is a reading. -/
theorem read_rd (picks : List Int) : ∀ (l : List Rw) (t : Nat), okAll l = true → RdF l (readF picks t l)
  | [], _, _ => rfl
  | r :: l, t, hv => by
    simp only [okAll, List.all_cons, Bool.and_eq_true] at hv
    have ih := read_rd picks l (tk t r) hv.2
    have hbl := lo_bound r hv.1
    have hle := lo_hi r hv.1
    rw [rd_cons, readF]
    have hN : 0 ≤ rowN picks t r ∧ rowN picks t r ≤ (natF r).hi - (natF r).lo := by
      unfold rowN
      split
      · have := pick_bound picks t ((natF r).hi - (natF r).lo + 1) (by omega)
        omega
      · omega
    by_cases c1 : r.k = 1 ∨ r.k = 5
    · rw [if_pos c1]
      have e : yoF (natF r) ((natF r).lo + rowN picks t r) = [] := by
        have : (natF r).hides = false ∧ (natF r).layers = [] ∧ (natF r).lo = 0 := by rcases c1 with c1 | c1 <;> simp [natF, c1]
        have h0 : 0 ≤ (natF r).lo + rowN picks t r := by omega
        unfold yoF
        rw [this.1, this.2.1]; simp [h0]
      rw [e]; exact ih
    rw [if_neg c1]
    by_cases c2 : r.k = 4 ∨ r.k = 6
    · rw [if_pos c2]
      have e : (natF r).hides = true := by rcases c2 with c2 | c2 <;> simp [natF, c2]
      unfold yoF
      rw [if_pos e]
      refine ⟨((natF r).lo + rowN picks t r).toNat, by omega, zF_zeros _ _, ?_⟩
      rw [List.drop_left' (by simp)]
      exact ih
    rw [if_neg c2]
    by_cases c3 : r.k = 2
    · rw [if_pos c3]
      have e : natF r = { valid := thickB r.n && r.m == 0, lo := 1, hi := 1, layers := [r.n] } := by simp [natF, c3]
      have hz : rowN picks t r = 0 := by rw [e] at hN; simp only at hN; omega
      rw [hz, e]
      exact ⟨_, by simp [yoF], ih⟩
    · rw [if_neg c3]
      have c3' := kind_of hv.1 c1 c2 c3
      have e : natF r = { valid := thickB r.n && thickB r.m, lo := 1, hi := 2, layers := [r.n, r.m], choice := true } := by simp [natF, c3']
      have hz : rowN picks t r = 0 ∨ rowN picks t r = 1 := by rw [e] at hN; simp only at hN; omega
      rcases hz with hz | hz
      · rw [hz, e]
        exact .inl ⟨_, by simp [yoF], ih⟩
      · rw [hz, e]
        exact .inr ⟨_, by simp [yoF], ih⟩
theorem yo_len {r : Rw} (hv : (natF r).valid = true) {c : Int} (h1 : (natF r).lo ≤ c) (h2 : c ≤ (natF r).hi) : ((yoF (natF r) c).length : Int) = c := by
  have hbl := lo_bound r hv
  by_cases c1 : r.k = 1 ∨ r.k = 5
  · have : (natF r).hides = false ∧ (natF r).layers = [] ∧ (natF r).lo = 0 ∧ (natF r).hi = 0 := by rcases c1 with c1 | c1 <;> simp [natF, c1]
    unfold yoF
    have h0 : c = 0 := by omega
    rw [this.1, this.2.1, h0]; simp
  by_cases c2 : r.k = 4 ∨ r.k = 6
  · have e : (natF r).hides = true := by rcases c2 with c2 | c2 <;> simp [natF, c2]
    unfold yoF
    rw [if_pos e]; simp; omega
  by_cases c3 : r.k = 2
  · have e : natF r = { valid := thickB r.n && r.m == 0, lo := 1, hi := 1, layers := [r.n] } := by simp [natF, c3]
    rw [e] at h1 h2 ⊢
    simp only at h1 h2
    obtain rfl : c = 1 := by omega
    simp [yoF]
  · have c3' := kind_of hv c1 c2 c3
    have e : natF r = { valid := thickB r.n && thickB r.m, lo := 1, hi := 2, layers := [r.n, r.m], choice := true } := by simp [natF, c3']
    rw [e] at h1 h2 ⊢
    simp only at h1 h2
    have : c = 1 ∨ c = 2 := by omega
    rcases this with rfl | rfl <;> simp [yoF]
/-- Of so many further years, each choosing row takes what it can. -/
def moreF (left : Int) (r : Rw) : Int := min left ((natF r).hi - (natF r).lo)
def takeF : Int → List Rw → List Int
  | _, [] => []
  | left, r :: l => if (natF r).choice = true then moreF left r :: takeF (left - moreF left r) l else takeF (left - moreF left r) l
def leftF : Int → List Rw → Int
  | left, [] => left
  | left, r :: l => leftF (left - moreF left r) l
theorem choice_or {r : Rw} (hv : (natF r).valid = true) : (natF r).choice = true ∨ (natF r).hi = (natF r).lo := by
  by_cases c1 : r.k = 1 ∨ r.k = 5
  · rcases c1 with c1 | c1 <;> simp [natF, c1]
  by_cases c2 : r.k = 4 ∨ r.k = 6
  · rcases c2 with c2 | c2 <;> simp [natF, c2]
  by_cases c3 : r.k = 2
  · simp [natF, c3]
  · simp [natF, kind_of hv c1 c2 c3]
theorem left_zero : ∀ (l : List Rw) (left : Int), okAll l = true → 0 ≤ left → left ≤ hiSum l - loSum l → leftF left l = 0
  | [], left, _, h1, h2 => by simp [hiSum, loSum] at h2; unfold leftF; omega
  | r :: l, left, hv, h1, h2 => by
    simp only [okAll, List.all_cons, Bool.and_eq_true] at hv
    have hle := lo_hi r hv.1
    rw [loSum_cons, hiSum_cons] at h2
    unfold leftF
    exact left_zero l _ hv.2 (by unfold moreF; omega) (by
      have hs : loSum l ≤ hiSum l := by
        have := hv.2
        clear h2 h1
        induction l with
        | nil => simp [loSum, hiSum]
        | cons q l ih =>
          simp only [List.all_cons, Bool.and_eq_true] at this
          have h3 := lo_hi q this.1
          have h4 := ih ⟨hv.1, this.2⟩ this.2
          rw [loSum_cons, hiSum_cons]; omega
      unfold moreF; omega)
theorem read_len : ∀ (l : List Rw) (left : Int) (pre : List Int), okAll l = true → 0 ≤ left → ((readF (pre ++ takeF left l) pre.length l).length : Int) = loSum l + (left - leftF left l)
  | [], left, pre, _, _ => by simp [readF, loSum, leftF]
  | r :: l, left, pre, hv, h0 => by
    simp only [okAll, List.all_cons, Bool.and_eq_true] at hv
    have hle := lo_hi r hv.1
    have hm : 0 ≤ moreF left r ∧ moreF left r ≤ (natF r).hi - (natF r).lo ∧ moreF left r ≤ left := by unfold moreF; omega
    rw [readF, List.length_append, loSum_cons]
    unfold takeF leftF
    by_cases hc : (natF r).choice = true
    · rw [if_pos hc]
      have hpick : rowN (pre ++ moreF left r :: takeF (left - moreF left r) l) pre.length r = moreF left r := by
        unfold rowN pickF
        rw [if_pos hc, if_neg (by simp; omega)]
        have hmod : pre.length % (pre ++ moreF left r :: takeF (left - moreF left r) l).length = pre.length := Nat.mod_eq_of_lt (by simp)
        have hget : (pre ++ moreF left r :: takeF (left - moreF left r) l).getD pre.length 0 = moreF left r := by
          rw [List.getD_eq_getElem?_getD, List.getElem?_append_right (Nat.le_refl _), Nat.sub_self]; rfl
        rw [hmod, hget]
        exact Int.emod_eq_of_lt hm.1 (by omega)
      rw [hpick]
      have htk : tk pre.length r = (pre ++ [moreF left r]).length := by unfold tk; rw [if_pos hc]; simp
      have ih := read_len l (left - moreF left r) (pre ++ [moreF left r]) hv.2 (by omega)
      rw [List.append_assoc, List.singleton_append] at ih
      rw [htk]
      have hy := yo_len hv.1 (c := (natF r).lo + moreF left r) (by omega) (by omega)
      rw [Int.natCast_add, hy, ih]; omega
    · rw [if_neg hc]
      have heq : (natF r).hi = (natF r).lo := (choice_or hv.1).resolve_left hc
      have hz : moreF left r = 0 := by omega
      have hN : rowN (pre ++ takeF (left - moreF left r) l) pre.length r = 0 := by unfold rowN; rw [if_neg hc]
      rw [hN]
      have htk : tk pre.length r = pre.length := by unfold tk; rw [if_neg hc]
      have ih := read_len l (left - moreF left r) pre hv.2 (by omega)
      rw [htk]
      have hy := yo_len hv.1 (c := (natF r).lo + 0) (by omega) (by omega)
      rw [Int.natCast_add, hy, ih]; omega
end Go.Proofs.YtdljcjbghinhiaaDoor
/- Whatever rows and numbers it is called with, the code of SheetBounds returns true. -/
namespace Go.Proofs.YtdljcjbghinhiaaDoor
open Go Go.Em
set_option maxRecDepth 100000
theorem call_gl {h : Heap} {d : D} {T : List Int} (g : Gl h d T) {f : FuncId} {R : Rc} (hs : pg.sh f = false) (l : List Rw) {o : Out} (x : pureCall R f [rowsD l, intsD T] = some o) : ∃ h', call pg R f [rowsD l, d] h = some (o, h') := by
  obtain ⟨ks, hz⟩ := g.frozen 22
  have hr : frz h depth (rowsD l) = some (rowsD l, []) := frz_canon (by simp [rowsD, canonL_map rowD (fun _ => rfl) l])
  have hz' : frz h depth d = some (intsD T, ks) := hz
  have hall : each (frz h depth) [rowsD l, d] = some ([rowsD l, intsD T], ks) := by
    unfold each; rw [hr]; unfold each; rw [hz']; simp [each]
  refine ⟨(if ks.isEmpty || o.d.flat then h else h.kill ks), ?_⟩
  unfold call
  rw [hs, hall]
  simp only [x, Bool.false_eq_true, if_false, Option.map_some]
theorem takeF_cons (left : Int) (r : Rw) (l : List Rw) : takeF left (r :: l) = if (natF r).choice = true then moreF left r :: takeF (left - moreF left r) l else takeF (left - moreF left r) l := rfl
theorem leftF_cons (left : Int) (r : Rw) (l : List Rw) : leftF left (r :: l) = leftF (left - moreF left r) l := rfl
def BDI (L : List Rw) (W left0 : Int) (k : Nat) (s : St) : Prop := ∃ (x : Env 152) (h : Heap) (i : Nat) (d : D) (acc : List Int) (left : Int), s = ⟨x.l, h, []⟩ ∧ i + k = L.length ∧ x.v 0 = rowsD L ∧ x.v 7 = D.bool true ∧ x.v 13 = D.int W ∧ x.v 14 = D.int left ∧ x.v 15 = d ∧ x.v 16 = D.int i ∧
  Gl h d acc ∧ (0 ≤ left ∧ left ≤ 100000) ∧ acc ++ takeF left (L.drop i) = takeF left0 L ∧ leftF left (L.drop i) = leftF left0 L ∧ h.Fr ∧ 1 < h.next ∧ acc.length ≤ i
end Go.Proofs.YtdljcjbghinhiaaDoor
