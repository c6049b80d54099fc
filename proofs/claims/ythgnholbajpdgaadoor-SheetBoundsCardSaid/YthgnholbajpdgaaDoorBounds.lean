/- Readings have as many years as they may have, and each such number is attained. -/
import Derived.Test.YthgnholbajpdgaaDoorStep
namespace Go.Proofs.YthgnholbajpdgaaDoor
open Go Go.Em
set_option maxRecDepth 100000
theorem zF_zeros : ∀ (n : Nat) (l : List Int), n ≤ zF (List.replicate n 0 ++ l)
  | 0, _ => Nat.zero_le _
  | n + 1, l => by
    rw [List.replicate_succ, List.cons_append, zF_cons, if_pos rfl]
    have := zF_zeros n l
    omega
/-- A reading that numbers choose is a reading. -/
theorem read_rd (picks : List Int) : ∀ (l : List Rw) (t : Nat), okAll l = true → RdF l (readF picks t l)
  | [], _, _ => rfl
  | r :: l, t, hv => by
    simp only [okAll, List.all_cons, Bool.and_eq_true] at hv
    have ih := read_rd picks l (tk t r) hv.2
    have hbl := lo_bound r hv.1
    have hle := lo_hi r hv.1
    rw [rd_cons, readF]
    have hN : 0 ≤ rowN picks t r ∧ rowN picks t r ≤ (natF r).hi - (natF r).lo := by
      unfold rowN
      split
      · have := pick_bound picks t ((natF r).hi - (natF r).lo + 1) (by omega)
        omega
      · omega
    by_cases c1 : r.k = 1 ∨ r.k = 5
    · rw [if_pos c1]
      have e : yoF (natF r) ((natF r).lo + rowN picks t r) = [] := by
        have : (natF r).hides = false ∧ (natF r).layers = [] ∧ (natF r).lo = 0 := by rcases c1 with c1 | c1 <;> simp [natF, c1]
        have h0 : 0 ≤ (natF r).lo + rowN picks t r := by omega
        unfold yoF
        rw [this.1, this.2.1]; simp [h0]
      rw [e]; exact ih
    rw [if_neg c1]
    by_cases c2 : r.k = 4 ∨ r.k = 6
    · rw [if_pos c2]
      have e : (natF r).hides = true := by rcases c2 with c2 | c2 <;> simp [natF, c2]
      unfold yoF
      rw [if_pos e]
      refine ⟨((natF r).lo + rowN picks t r).toNat, by omega, zF_zeros _ _, ?_⟩
      rw [List.drop_left' (by simp)]
      exact ih
    rw [if_neg c2]
    by_cases c3 : r.k = 2
    · rw [if_pos c3]
      have e : natF r = { valid := thickB r.n && r.m == 0, lo := 1, hi := 1, layers := [r.n] } := by simp [natF, c3]
      have hz : rowN picks t r = 0 := by rw [e] at hN; simp only at hN; omega
      rw [hz, e]
      exact ⟨_, by simp [yoF], ih⟩
    · rw [if_neg c3]
      have c3' := kind_of hv.1 c1 c2 c3
      have e : natF r = { valid := thickB r.n && thickB r.m, lo := 1, hi := 2, layers := [r.n, r.m], choice := true } := by simp [natF, c3']
      have hz : rowN picks t r = 0 ∨ rowN picks t r = 1 := by rw [e] at hN; simp only at hN; omega
      rcases hz with hz | hz
      · rw [hz, e]
        exact .inl ⟨_, by simp [yoF], ih⟩
      · rw [hz, e]
        exact .inr ⟨_, by simp [yoF], ih⟩
theorem yo_len {r : Rw} (hv : (natF r).valid = true) {c : Int} (h1 : (natF r).lo ≤ c) (h2 : c ≤ (natF r).hi) : ((yoF (natF r) c).length : Int) = c := by
  have hbl := lo_bound r hv
  by_cases c1 : r.k = 1 ∨ r.k = 5
  · have : (natF r).hides = false ∧ (natF r).layers = [] ∧ (natF r).lo = 0 ∧ (natF r).hi = 0 := by rcases c1 with c1 | c1 <;> simp [natF, c1]
    unfold yoF
    have h0 : c = 0 := by omega
    rw [this.1, this.2.1, h0]; simp
  by_cases c2 : r.k = 4 ∨ r.k = 6
  · have e : (natF r).hides = true := by rcases c2 with c2 | c2 <;> simp [natF, c2]
    unfold yoF
    rw [if_pos e]; simp; omega
  by_cases c3 : r.k = 2
  · have e : natF r = { valid := thickB r.n && r.m == 0, lo := 1, hi := 1, layers := [r.n] } := by simp [natF, c3]
    rw [e] at h1 h2 ⊢
    simp only at h1 h2
    obtain rfl : c = 1 := by omega
    simp [yoF]
  · have c3' := kind_of hv c1 c2 c3
    have e : natF r = { valid := thickB r.n && thickB r.m, lo := 1, hi := 2, layers := [r.n, r.m], choice := true } := by simp [natF, c3']
    rw [e] at h1 h2 ⊢
    simp only at h1 h2
    have : c = 1 ∨ c = 2 := by omega
    rcases this with rfl | rfl <;> simp [yoF]
/-- Of so many further years, each choosing row takes what it can. -/
def moreF (left : Int) (r : Rw) : Int := min left ((natF r).hi - (natF r).lo)
def takeF : Int → List Rw → List Int
  | _, [] => []
  | left, r :: l => if (natF r).choice = true then moreF left r :: takeF (left - moreF left r) l else takeF (left - moreF left r) l
def leftF : Int → List Rw → Int
  | left, [] => left
  | left, r :: l => leftF (left - moreF left r) l
theorem choice_or {r : Rw} (hv : (natF r).valid = true) : (natF r).choice = true ∨ (natF r).hi = (natF r).lo := by
  by_cases c1 : r.k = 1 ∨ r.k = 5
  · rcases c1 with c1 | c1 <;> simp [natF, c1]
  by_cases c2 : r.k = 4 ∨ r.k = 6
  · rcases c2 with c2 | c2 <;> simp [natF, c2]
  by_cases c3 : r.k = 2
  · simp [natF, c3]
  · simp [natF, kind_of hv c1 c2 c3]
theorem left_zero : ∀ (l : List Rw) (left : Int), okAll l = true → 0 ≤ left → left ≤ hiSum l - loSum l → leftF left l = 0
  | [], left, _, h1, h2 => by simp [hiSum, loSum] at h2; unfold leftF; omega
  | r :: l, left, hv, h1, h2 => by
    simp only [okAll, List.all_cons, Bool.and_eq_true] at hv
    have hle := lo_hi r hv.1
    rw [loSum_cons, hiSum_cons] at h2
    unfold leftF
    exact left_zero l _ hv.2 (by unfold moreF; omega) (by
      have hs : loSum l ≤ hiSum l := by
        have := hv.2
        clear h2 h1
        induction l with
        | nil => simp [loSum, hiSum]
        | cons q l ih =>
          simp only [List.all_cons, Bool.and_eq_true] at this
          have h3 := lo_hi q this.1
          have h4 := ih ⟨hv.1, this.2⟩ this.2
          rw [loSum_cons, hiSum_cons]; omega
      unfold moreF; omega)
theorem read_len : ∀ (l : List Rw) (left : Int) (pre : List Int), okAll l = true → 0 ≤ left → ((readF (pre ++ takeF left l) pre.length l).length : Int) = loSum l + (left - leftF left l)
  | [], left, pre, _, _ => by simp [readF, loSum, leftF]
  | r :: l, left, pre, hv, h0 => by
    simp only [okAll, List.all_cons, Bool.and_eq_true] at hv
    have hle := lo_hi r hv.1
    have hm : 0 ≤ moreF left r ∧ moreF left r ≤ (natF r).hi - (natF r).lo ∧ moreF left r ≤ left := by unfold moreF; omega
    rw [readF, List.length_append, loSum_cons]
    unfold takeF leftF
    by_cases hc : (natF r).choice = true
    · rw [if_pos hc]
      have hpick : rowN (pre ++ moreF left r :: takeF (left - moreF left r) l) pre.length r = moreF left r := by
        unfold rowN pickF
        rw [if_pos hc, if_neg (by simp; omega)]
        have hmod : pre.length % (pre ++ moreF left r :: takeF (left - moreF left r) l).length = pre.length := Nat.mod_eq_of_lt (by simp)
        have hget : (pre ++ moreF left r :: takeF (left - moreF left r) l).getD pre.length 0 = moreF left r := by
          rw [List.getD_eq_getElem?_getD, List.getElem?_append_right (Nat.le_refl _), Nat.sub_self]; rfl
        rw [hmod, hget]
        exact Int.emod_eq_of_lt hm.1 (by omega)
      rw [hpick]
      have htk : tk pre.length r = (pre ++ [moreF left r]).length := by unfold tk; rw [if_pos hc]; simp
      have ih := read_len l (left - moreF left r) (pre ++ [moreF left r]) hv.2 (by omega)
      rw [List.append_assoc, List.singleton_append] at ih
      rw [htk]
      have hy := yo_len hv.1 (c := (natF r).lo + moreF left r) (by omega) (by omega)
      rw [Int.natCast_add, hy, ih]; omega
    · rw [if_neg hc]
      have heq : (natF r).hi = (natF r).lo := (choice_or hv.1).resolve_left hc
      have hz : moreF left r = 0 := by omega
      have hN : rowN (pre ++ takeF (left - moreF left r) l) pre.length r = 0 := by unfold rowN; rw [if_neg hc]
      rw [hN]
      have htk : tk pre.length r = pre.length := by unfold tk; rw [if_neg hc]
      have ih := read_len l (left - moreF left r) pre hv.2 (by omega)
      rw [htk]
      have hy := yo_len hv.1 (c := (natF r).lo + 0) (by omega) (by omega)
      rw [Int.natCast_add, hy, ih]; omega
end Go.Proofs.YthgnholbajpdgaaDoor
/- Whatever rows and numbers it is called with, the code of SheetBounds returns true. -/
namespace Go.Proofs.YthgnholbajpdgaaDoor
open Go Go.Em
set_option maxRecDepth 100000
theorem call_gl {h : Heap} {d : D} {T : List Int} (g : Gl h d T) {f : FuncId} {R : Rc} (hs : pg.sh f = false) (l : List Rw) {o : Out} (x : pureCall R f [rowsD l, intsD T] = some o) : ∃ h', call pg R f [rowsD l, d] h = some (o, h') := by
  obtain ⟨ks, hz⟩ := g.frozen 22
  have hr : frz h depth (rowsD l) = some (rowsD l, []) := frz_canon (by simp [rowsD, canonL_map rowD (fun _ => rfl) l])
  have hz' : frz h depth d = some (intsD T, ks) := hz
  have hall : each (frz h depth) [rowsD l, d] = some ([rowsD l, intsD T], ks) := by
    unfold each; rw [hr]; unfold each; rw [hz']; simp [each]
  refine ⟨(if ks.isEmpty || o.d.flat then h else h.kill ks), ?_⟩
  unfold call
  rw [hs, hall]
  simp only [x, Bool.false_eq_true, if_false, Option.map_some]
theorem takeF_cons (left : Int) (r : Rw) (l : List Rw) : takeF left (r :: l) = if (natF r).choice = true then moreF left r :: takeF (left - moreF left r) l else takeF (left - moreF left r) l := rfl
theorem leftF_cons (left : Int) (r : Rw) (l : List Rw) : leftF left (r :: l) = leftF (left - moreF left r) l := rfl
def BDI (L : List Rw) (W left0 : Int) (k : Nat) (s : St) : Prop := ∃ (x : Env 152) (h : Heap) (i : Nat) (d : D) (acc : List Int) (left : Int), s = ⟨x.l, h, []⟩ ∧ i + k = L.length ∧ x.v 0 = rowsD L ∧ x.v 7 = D.bool true ∧ x.v 13 = D.int W ∧ x.v 14 = D.int left ∧ x.v 15 = d ∧ x.v 16 = D.int i ∧
  Gl h d acc ∧ (0 ≤ left ∧ left ≤ 100000) ∧ acc ++ takeF left (L.drop i) = takeF left0 L ∧ leftF left (L.drop i) = leftF left0 L ∧ h.Fr ∧ 1 < h.next ∧ acc.length ≤ i
set_option maxHeartbeats 4000000 in
theorem bounds_round (L : List Rw) (W left0 : Int) (hl : L.length ≤ 60) (hv : okAll L = true) : ∀ n, 100 ≤ n → ∀ k s, BDI L W left0 k s → Res (k14l0.ev ⟨pg, 152, none⟩ (rc pg n) s) (Rnd (BDI L W left0) (fun x s => x = .exit 0 ∧ BDI L W left0 0 s) k) := by
  rintro n hn k s ⟨x, h, i, d, acc, left, rfl, hik, v0, v7, v13, v14, v15, v16, hd, hleft, hT, hF, hf, hnx, hac⟩
  simp only [rowsD] at v0
  have hfr : ∀ j, h.raw (h.next + j) = none := fun j => hf _ (by omega)
  by_cases hlt : i < L.length
  · obtain ⟨r, hr⟩ : ∃ r, L[i] = r := ⟨_, rfl⟩
    have hdr : L.drop i = r :: L.drop (i + 1) := by rw [List.drop_eq_getElem_cons hlt, hr]
    rw [hdr] at hT hF
    rw [takeF_cons] at hT
    rw [leftF_cons] at hF
    have hval : (natF r).valid = true := by rw [← hr]; exact List.all_eq_true.1 hv _ (List.getElem_mem hlt)
    have hbl := lo_bound r hval
    have hbh := hi_bound r hval
    have hle := lo_hi r hval
    have hw1 : IntKind.i64.wrap ((i : Int) + 1) = (i : Int) + 1 := wrap_i64 (by omega) (by omega)
    have hw2 : IntKind.i64.wrap ((natF r).hi - (natF r).lo) = (natF r).hi - (natF r).lo := wrap_i64 (by omega) (by omega)
    have hm : 0 ≤ moreF left r ∧ moreF left r ≤ (natF r).hi - (natF r).lo ∧ moreF left r ≤ left := by unfold moreF; omega
    have hm' : min left ((natF r).hi - (natF r).lo) = moreF left r := rfl
    have hw3 : IntKind.i64.wrap (left - moreF left r) = left - moreF left r := wrap_i64 (by omega) (by omega)
    have hy1 : yearsF [r] = ((natF r).lo, (natF r).hi, 0) := by
      have : (natsF [r]).2 = 0 := by
        unfold natsF
        rw [if_neg (by simp), if_neg (by simp [okAll, hval]), if_neg (by simp [hiSum]; omega)]
      unfold yearsF
      rw [if_pos this]
      simp [loSum, hiSum]
    have hy := fun h => call_of (h := h) (pg := pg) (f := 32) rfl (rows_canon [r]) (@pyears_run [r] n (by simp; omega))
    rw [hy1] at hy
    simp only [rowsD, rowD, List.map_cons, List.map_nil] at hy
    have t4 : (i : Int) ≤ (i : Int) + 1 := by omega
    have hhead := rows_head L
    have hsl : List.take 1 (List.drop i (List.map rowD L)) = [rowD r] := by
      rw [← List.map_drop, hdr]; rfl
    have hlt' : i + 1 ≤ L.length := hlt
    have t1 : (0 : Int) ≤ (i : Int) + 1 := by omega
    have t2 : ((i : Int) + 1).toNat = i + 1 := by omega
    have t3 : (i : Int) + 1 ≤ L.length := by omega
    by_cases hc : (natF r).choice = true
    · rw [if_pos hc] at hT
      have hk : ((r.k == 3) = true ∨ ((r.k == 3) = false ∧ (r.k == 4) = true) ∨ ((r.k == 3) = false ∧ (r.k == 4) = false ∧ (r.k == 6) = true)) := by
        refine kinds_cases r _ (fun h => ?_) (fun h => ?_) (fun h => ?_) (fun h => ?_) (fun h => ?_) (fun h => ?_) ?_
        · simp [natF, h] at hc
        · simp [natF, h] at hc
        · simp [h]
        · simp [h]
        · simp [natF, h] at hc
        · simp [h]
        · intro _ _ _ _ _ _ a1 a2 a3 a4 a5 a6; simp [natF, a1, a2, a3, a4, a5, a6] at hc
      rcases hd with ⟨rfl, rfl⟩ | ⟨k1, rfl, hg1, hk2, hk3⟩
      · rcases hk with e1 | ⟨e1, e2⟩ | ⟨e1, e2, e3⟩
        all_goals
          simp [k14l0, v0, v14, v15, v16, hlt, hr, hw1, t1, t2, t3, t4, hlt', hhead, hsl, hy, hw2, hm', hw3, rowD, D.cells, D.one, *, zerosD, hfr, Nat.add_assoc, apK_some, room, maxLen]
          refine ⟨k - 1, by omega, _, _, i + 1, .slr (h.next + 1041) 0 1 1 none, [moreF left r], left - moreF left r, rfl, by omega, by simp [v0, rowsD], by simp [v7], by simp [v13], by simp, by simp, by simp, .inr ⟨h.next + 1041, by simp, by simp, by simp <;> omega, by omega⟩, by omega, by simpa using hT, hF, ?_, by simp <;> omega, by simp⟩
          repeat' first | exact hf | apply Heap.Fr.bump | apply Heap.Fr.set
          all_goals (simp <;> omega)
      · have e4 : ∀ j, (k1 = h.next + j) = False := fun j => by simp; omega
        have e5 : ∀ j, (h.next + j = k1) = False := fun j => by simp; omega
        have happ := fun t hh news => appS_none (t := t) (et := 3) (sz := 1) (bytes := 8) (h := hh) (m := 1) (news := news) (k := k1) (n := acc.length) (cs := acc.map D.int) (by simp) (by omega) (by unfold room; omega) (by unfold maxLen; omega)
        rcases hk with e1 | ⟨e1, e2⟩ | ⟨e1, e2, e3⟩
        · have e2 := e1
          have e3 := e1
          simp [k14l0, v0, v14, v15, v16, hlt, hr, hw1, t1, t2, t3, t4, hlt', hhead, hsl, hy, hw2, hm', hw3, rowD, D.cells, D.one, e1, e2, e3, zerosD, hfr, Nat.add_assoc, apK_some, happ, hg1, e4, e5]
          refine ⟨k - 1, by omega, _, _, i + 1, .slr (h.next + 1041) 0 (acc.length + 1) 1 none, acc ++ [moreF left r], left - moreF left r, rfl, by omega, by simp [v0, rowsD], by simp [v7], by simp [v13], by simp, by simp, by simp, .inr ⟨h.next + 1041, by simp, by simp [e5], by simp <;> omega, by omega⟩, by omega, by simpa using hT, hF, ?_, by simp <;> omega, by simp; omega⟩
          repeat' first | exact hf | apply Heap.Fr.bump | apply Heap.Fr.set
          all_goals (simp <;> omega)
        · have e3 := e1
          simp [k14l0, v0, v14, v15, v16, hlt, hr, hw1, t1, t2, t3, t4, hlt', hhead, hsl, hy, hw2, hm', hw3, rowD, D.cells, D.one, e1, e2, e3, zerosD, hfr, Nat.add_assoc, apK_some, happ, hg1, e4, e5]
          refine ⟨k - 1, by omega, _, _, i + 1, .slr (h.next + 1041) 0 (acc.length + 1) 1 none, acc ++ [moreF left r], left - moreF left r, rfl, by omega, by simp [v0, rowsD], by simp [v7], by simp [v13], by simp, by simp, by simp, .inr ⟨h.next + 1041, by simp, by simp [e5], by simp <;> omega, by omega⟩, by omega, by simpa using hT, hF, ?_, by simp <;> omega, by simp; omega⟩
          repeat' first | exact hf | apply Heap.Fr.bump | apply Heap.Fr.set
          all_goals (simp <;> omega)
        · simp [k14l0, v0, v14, v15, v16, hlt, hr, hw1, t1, t2, t3, t4, hlt', hhead, hsl, hy, hw2, hm', hw3, rowD, D.cells, D.one, e1, e2, e3, zerosD, hfr, Nat.add_assoc, apK_some, happ, hg1, e4, e5]
          refine ⟨k - 1, by omega, _, _, i + 1, .slr (h.next + 1041) 0 (acc.length + 1) 1 none, acc ++ [moreF left r], left - moreF left r, rfl, by omega, by simp [v0, rowsD], by simp [v7], by simp [v13], by simp, by simp, by simp, .inr ⟨h.next + 1041, by simp, by simp [e5], by simp <;> omega, by omega⟩, by omega, by simpa using hT, hF, ?_, by simp <;> omega, by simp; omega⟩
          repeat' first | exact hf | apply Heap.Fr.bump | apply Heap.Fr.set
          all_goals (simp <;> omega)
    · rw [if_neg hc] at hT
      have hk : (r.k == 3) = false ∧ (r.k == 4) = false ∧ (r.k == 6) = false := by
        refine ⟨?_, ?_, ?_⟩ <;> simp <;> intro h <;> simp [natF, h] at hc
      simp [k14l0, v0, v14, v15, v16, hlt, hr, hw1, t1, t2, t3, t4, hlt', hhead, hsl, hy, hw2, hm', hw3, rowD, D.cells, D.one, hk]
      refine ⟨k - 1, by omega, _, _, i + 1, d, acc, left - moreF left r, rfl, by omega, by simp [v0, rowsD], by simp [v7], by simp [v13], by simp, by simp [v15], by simp, hd.keep (by simp <;> omega) (fun k cs hk => by simpa using hk), by omega, hT, hF, ?_, by simp <;> omega, by omega⟩
      repeat' first | exact hf | apply Heap.Fr.bump | apply Heap.Fr.set
  · simp [k14l0, v0, v16, hlt]
    exact ⟨_, _, i, d, acc, left, rfl, by omega, by simp [v0, rowsD], by simp [v7], by simp [v13], by simp [v14], by simp [v15], by simp [v16], hd.keep (by simp) (fun k cs hk => by simpa using hk), hleft, hT, hF, hf.bump _, by simp <;> omega, hac⟩
set_option maxHeartbeats 4000000 in
theorem bounds_law (rows : List Rw) (picks : List Int) (n : Int) {f : Nat} (hn : 4000000 ≤ f) : pureCall (rc pg f) 14 [rowsD rows, intsD picks, D.int n] = some (.ret (D.bool true)) := by
  obtain ⟨m, hm, e⟩ := body (pg := pg) (f := 14) (args := [rowsD rows, intsD picks, D.int n]) (show 0 < f by omega) rfl rfl
  rw [e]
  have hs := @sane_call m (by omega)
  have a1 := fun h => call_of (h := h) (pg := pg) (f := 52) rfl (rows_canon rows) (@cut_run rows m (by omega))
  obtain ⟨L, hL⟩ : ∃ L, L = rows.take 60 := ⟨_, rfl⟩
  have hl : L.length ≤ 60 := by rw [hL, List.length_take]; omega
  rw [← hL] at a1
  have hc2 : ∀ ys, D.canonL [rowsD L, intsD ys] = true := fun ys => by simp only [rowsD, intsD, D.canonL, D.canon, ints_canon, canonL_map rowD (fun _ => rfl) L]; rfl
  have a2 := fun h => call_of (h := h) (pg := pg) (f := 32) rfl (rows_canon L) (@pyears_run L m (by omega))
  have a3 := fun h => call_of (h := h) (pg := pg) (f := 48) rfl (hc2 picks) (@read_run picks L m (by omega))
  by_cases h4 : (natsF L).2 = 0
  · have hv := ok_of h4
    have hyl : yearsF L = (loSum L, hiSum L, 0) := by unfold yearsF; rw [if_pos h4]
    have hrl : ∀ ps, readL ps L = readF ps 0 L := fun ps => by unfold readL; rw [if_pos h4]
    have hlen := readL_len picks L
    have hlo := loSum_bound L hv
    have hhi := hiSum_bound L hv
    have hrd := rd_len L _ hv (read_rd picks L 0 hv)
    have his : ∀ ps, isF L (readF ps 0 L) = true := fun ps => (is_reads _ _).2 ⟨h4, read_rd ps L 0 hv⟩
    have a4 := fun h => call_of (h := h) (pg := pg) (f := 53) rfl (hc2 (readF picks 0 L)) (@is_run L (readF picks 0 L) (by omega) m (by omega))
    rw [hyl] at a2
    rw [hrl, h4] at a3
    rw [his] at a4
    have c1 : ¬ ((readF picks 0 L).length : Int) < loSum L := by omega
    have c2 : ¬ hiSum L < ((readF picks 0 L).length : Int) := by omega
    have a5 := fun h => call_of (h := h) (pg := pg) (f := 54) rfl rfl (@mod_run n (hiSum L - loSum L + 1) (by omega) (by omega) m (by omega))
    have b1 := Int.emod_nonneg n (show hiSum L - loSum L + 1 ≠ 0 by omega)
    have b2 := Int.emod_lt_of_pos n (show 0 < hiSum L - loSum L + 1 by omega)
    obtain ⟨q, hq⟩ : ∃ q, q = n % (hiSum L - loSum L + 1) := ⟨_, rfl⟩
    rw [← hq] at a5 b1 b2
    have w1 : IntKind.i64.wrap (hiSum L - loSum L) = hiSum L - loSum L := wrap_i64 (by omega) (by omega)
    have w2 : IntKind.i64.wrap (hiSum L - loSum L + 1) = hiSum L - loSum L + 1 := wrap_i64 (by omega) (by omega)
    have w3 : IntKind.i64.wrap (loSum L + q) = loSum L + q := wrap_i64 (by omega) (by omega)
    have w4 : IntKind.i64.wrap (loSum L + q - loSum L) = q := by rw [show loSum L + q - loSum L = q by omega]; exact wrap_i64 (by omega) (by omega)
    simp only [intsD] at a3 a4
    simp [k14, Env.v_ini, intsD, hs, a1, a2, a3, a4, a5, c1, c2, w1, w2, w3, w4, ev_loop]
    refine Res.endsAfter (lp_rule 100 (BDI L (loSum L + q) q) _ (bounds_round L (loSum L + q) q hl hv) L.length m _ (by omega) ⟨_, _, 0, .val (.slice none 0 0), [], q, rfl, by omega, by simp, by simp, by simp, by simp, by simp, by simp, .inl ⟨rfl, rfl⟩, by omega, rfl, rfl, ?_, by simp, by simp⟩) ?_
    · repeat' first | exact Heap.Fr.empty | apply Heap.Fr.bump | apply Heap.Fr.set
    rintro x s ⟨rfl, x, h, i, d, acc, left, rfl, hi, v0, v7, v13, v14, v15, v16, hd, hleft, hT, hF, hf, hnx, hac⟩
    have hi2 : i = L.length := by omega
    rw [hi2, List.drop_length] at hT hF
    simp only [takeF, List.append_nil] at hT
    rw [hT] at hd
    have hd2 : Gl (h.bump 152) d (takeF q L) := hd.keep (by simp) (fun k cs hk => by simpa using hk)
    obtain ⟨h', hcl⟩ := call_gl hd2 (f := 48) rfl L (@read_run (takeF q L) L m (by omega))
    rw [hrl, h4] at hcl
    have hlen2 := read_len L q [] hv (by omega)
    rw [left_zero L q hv (by omega) (by omega)] at hlen2
    simp only [List.nil_append, List.length_nil] at hlen2
    have hlen3 : (((readF (takeF q L) 0 L).length : Int) == loSum L + q) = true := by simp; omega
    have a6 := fun h => call_of (h := h) (pg := pg) (f := 53) rfl (hc2 (readF (takeF q L) 0 L)) (@is_run L (readF (takeF q L) 0 L) (by omega) m (by omega))
    rw [his] at a6
    simp only [intsD] at hcl a6
    simp [v0, v7, v13, v15, hcl, hlen3, a6]
  · have hyl : yearsF L = (0, 0, (natsF L).2) := by unfold yearsF; rw [if_neg h4]
    rw [hyl] at a2
    have h4' : ((natsF L).2 != 0) = true := by simpa using h4
    simp [k14, Env.v_ini, hs, a1, a2, a3, h4']
end Go.Proofs.YthgnholbajpdgaaDoor
