/- Readings have as many years as they may have, and each such number is attained. -/
import Derived.Test.YthgnholbajpdgaaDoorStep
namespace Go.Proofs.YthgnholbajpdgaaDoor
open Go Go.Em
set_option maxRecDepth 100000
theorem zF_zeros : ∀ (n : Nat) (l : List Int), n ≤ zF (List.replicate n 0 ++ l)
  | 0, _ => Nat.zero_le _
  | n + 1, l => by
    rw [List.replicate_succ, List.cons_append, zF_cons, if_pos rfl]
    have := zF_zeros n l
    omega
/-- A reading that numbers choose is a reading. -/
theorem read_rd (picks : List Int) : ∀ (l : List Rw) (t : Nat), okAll l = true → RdF l (readF picks t l)
  | [], _, _ => rfl
  | r :: l, t, hv => by
    simp only [okAll, List.all_cons, Bool.and_eq_true] at hv
    have ih := read_rd picks l (tk t r) hv.2
    have hbl := lo_bound r hv.1
    have hle := lo_hi r hv.1
    rw [rd_cons, readF]
    have hN : 0 ≤ rowN picks t r ∧ rowN picks t r ≤ (natF r).hi - (natF r).lo := by
      unfold rowN
      split
      · have := pick_bound picks t ((natF r).hi - (natF r).lo + 1) (by omega)
        omega
      · omega
    by_cases c1 : r.k = 1 ∨ r.k = 5
    · rw [if_pos c1]
      have e : yoF (natF r) ((natF r).lo + rowN picks t r) = [] := by
        have : (natF r).hides = false ∧ (natF r).layers = [] ∧ (natF r).lo = 0 := by rcases c1 with c1 | c1 <;> simp [natF, c1]
        have h0 : 0 ≤ (natF r).lo + rowN picks t r := by omega
        unfold yoF
        rw [this.1, this.2.1]; simp [h0]
      rw [e]; exact ih
    rw [if_neg c1]
    by_cases c2 : r.k = 4 ∨ r.k = 6
    · rw [if_pos c2]
      have e : (natF r).hides = true := by rcases c2 with c2 | c2 <;> simp [natF, c2]
      unfold yoF
      rw [if_pos e]
      refine ⟨((natF r).lo + rowN picks t r).toNat, by omega, zF_zeros _ _, ?_⟩
      rw [List.drop_left' (by simp)]
      exact ih
    rw [if_neg c2]
    by_cases c3 : r.k = 2
    · rw [if_pos c3]
      have e : natF r = { valid := thickB r.n && r.m == 0, lo := 1, hi := 1, layers := [r.n] } := by simp [natF, c3]
      have hz : rowN picks t r = 0 := by rw [e] at hN; simp only at hN; omega
      rw [hz, e]
      exact ⟨_, by simp [yoF], ih⟩
    · rw [if_neg c3]
      have c3' := kind_of hv.1 c1 c2 c3
      have e : natF r = { valid := thickB r.n && thickB r.m, lo := 1, hi := 2, layers := [r.n, r.m], choice := true } := by simp [natF, c3']
      have hz : rowN picks t r = 0 ∨ rowN picks t r = 1 := by rw [e] at hN; simp only at hN; omega
      rcases hz with hz | hz
      · rw [hz, e]
        exact .inl ⟨_, by simp [yoF], ih⟩
      · rw [hz, e]
        exact .inr ⟨_, by simp [yoF], ih⟩
theorem yo_len {r : Rw} (hv : (natF r).valid = true) {c : Int} (h1 : (natF r).lo ≤ c) (h2 : c ≤ (natF r).hi) : ((yoF (natF r) c).length : Int) = c := by
  have hbl := lo_bound r hv
  by_cases c1 : r.k = 1 ∨ r.k = 5
  · have : (natF r).hides = false ∧ (natF r).layers = [] ∧ (natF r).lo = 0 ∧ (natF r).hi = 0 := by rcases c1 with c1 | c1 <;> simp [natF, c1]
    unfold yoF
    have h0 : c = 0 := by omega
    rw [this.1, this.2.1, h0]; simp
  by_cases c2 : r.k = 4 ∨ r.k = 6
  · have e : (natF r).hides = true := by rcases c2 with c2 | c2 <;> simp [natF, c2]
    unfold yoF
    rw [if_pos e]; simp; omega
  by_cases c3 : r.k = 2
  · have e : natF r = { valid := thickB r.n && r.m == 0, lo := 1, hi := 1, layers := [r.n] } := by simp [natF, c3]
    rw [e] at h1 h2 ⊢
    simp only at h1 h2
    obtain rfl : c = 1 := by omega
    simp [yoF]
  · have c3' := kind_of hv c1 c2 c3
    have e : natF r = { valid := thickB r.n && thickB r.m, lo := 1, hi := 2, layers := [r.n, r.m], choice := true } := by simp [natF, c3']
    rw [e] at h1 h2 ⊢
    simp only at h1 h2
    have : c = 1 ∨ c = 2 := by omega
    rcases this with rfl | rfl <;> simp [yoF]
/-- Of so many further years, each choosing row takes what it can. -/
def moreF (left : Int) (r : Rw) : Int := min left ((natF r).hi - (natF r).lo)
def takeF : Int → List Rw → List Int
  | _, [] => []
  | left, r :: l => if (natF r).choice = true then moreF left r :: takeF (left - moreF left r) l else takeF (left - moreF left r) l
def leftF : Int → List Rw → Int
  | left, [] => left
  | left, r :: l => leftF (left - moreF left r) l
theorem choice_or {r : Rw} (hv : (natF r).valid = true) : (natF r).choice = true ∨ (natF r).hi = (natF r).lo := by
  by_cases c1 : r.k = 1 ∨ r.k = 5
  · rcases c1 with c1 | c1 <;> simp [natF, c1]
  by_cases c2 : r.k = 4 ∨ r.k = 6
  · rcases c2 with c2 | c2 <;> simp [natF, c2]
  by_cases c3 : r.k = 2
  · simp [natF, c3]
  · simp [natF, kind_of hv c1 c2 c3]
theorem left_zero : ∀ (l : List Rw) (left : Int), okAll l = true → 0 ≤ left → left ≤ hiSum l - loSum l → leftF left l = 0
  | [], left, _, h1, h2 => by simp [hiSum, loSum] at h2; unfold leftF; omega
  | r :: l, left, hv, h1, h2 => by
    simp only [okAll, List.all_cons, Bool.and_eq_true] at hv
    have hle := lo_hi r hv.1
    rw [loSum_cons, hiSum_cons] at h2
    unfold leftF
    exact left_zero l _ hv.2 (by unfold moreF; omega) (by
      have hs : loSum l ≤ hiSum l := by
        have := hv.2
        clear h2 h1
        induction l with
        | nil => simp [loSum, hiSum]
        | cons q l ih =>
          simp only [List.all_cons, Bool.and_eq_true] at this
          have h3 := lo_hi q this.1
          have h4 := ih ⟨hv.1, this.2⟩ this.2
          rw [loSum_cons, hiSum_cons]; omega
      unfold moreF; omega)
theorem read_len : ∀ (l : List Rw) (left : Int) (pre : List Int), okAll l = true → 0 ≤ left → ((readF (pre ++ takeF left l) pre.length l).length : Int) = loSum l + (left - leftF left l)
  | [], left, pre, _, _ => by simp [readF, loSum, leftF]
  | r :: l, left, pre, hv, h0 => by
    simp only [okAll, List.all_cons, Bool.and_eq_true] at hv
    have hle := lo_hi r hv.1
    have hm : 0 ≤ moreF left r ∧ moreF left r ≤ (natF r).hi - (natF r).lo ∧ moreF left r ≤ left := by unfold moreF; omega
    rw [readF, List.length_append, loSum_cons]
    unfold takeF leftF
    by_cases hc : (natF r).choice = true
    · rw [if_pos hc]
      have hpick : rowN (pre ++ moreF left r :: takeF (left - moreF left r) l) pre.length r = moreF left r := by
        unfold rowN pickF
        rw [if_pos hc, if_neg (by simp; omega)]
        have hmod : pre.length % (pre ++ moreF left r :: takeF (left - moreF left r) l).length = pre.length := Nat.mod_eq_of_lt (by simp)
        have hget : (pre ++ moreF left r :: takeF (left - moreF left r) l).getD pre.length 0 = moreF left r := by
          rw [List.getD_eq_getElem?_getD, List.getElem?_append_right (Nat.le_refl _), Nat.sub_self]; rfl
        rw [hmod, hget]
        exact Int.emod_eq_of_lt hm.1 (by omega)
      rw [hpick]
      have htk : tk pre.length r = (pre ++ [moreF left r]).length := by unfold tk; rw [if_pos hc]; simp
      have ih := read_len l (left - moreF left r) (pre ++ [moreF left r]) hv.2 (by omega)
      rw [List.append_assoc, List.singleton_append] at ih
      rw [htk]
      have hy := yo_len hv.1 (c := (natF r).lo + moreF left r) (by omega) (by omega)
      rw [Int.natCast_add, hy, ih]; omega
    · rw [if_neg hc]
      have heq : (natF r).hi = (natF r).lo := (choice_or hv.1).resolve_left hc
      have hz : moreF left r = 0 := by omega
      have hN : rowN (pre ++ takeF (left - moreF left r) l) pre.length r = 0 := by unfold rowN; rw [if_neg hc]
      rw [hN]
      have htk : tk pre.length r = pre.length := by unfold tk; rw [if_neg hc]
      have ih := read_len l (left - moreF left r) pre hv.2 (by omega)
      rw [htk]
      have hy := yo_len hv.1 (c := (natF r).lo + 0) (by omega) (by omega)
      rw [Int.natCast_add, hy, ih]; omega
end Go.Proofs.YthgnholbajpdgaaDoor
/- Whatever rows and numbers it is called with, the code of SheetBounds returns true. -/
namespace Go.Proofs.YthgnholbajpdgaaDoor
open Go Go.Em
set_option maxRecDepth 100000
theorem call_gl {h : Heap} {d : D} {T : List Int} (g : Gl h d T) {f : FuncId} {R : Rc} (hs : pg.sh f = false) (l : List Rw) {o : Out} (x : pureCall R f [rowsD l, intsD T] = some o) : ∃ h', call pg R f [rowsD l, d] h = some (o, h') := by
  obtain ⟨ks, hz⟩ := g.frozen 22
  have hr : frz h depth (rowsD l) = some (rowsD l, []) := frz_canon (by simp [rowsD, canonL_map rowD (fun _ => rfl) l])
  have hz' : frz h depth d = some (intsD T, ks) := hz
  have hall : each (frz h depth) [rowsD l, d] = some ([rowsD l, intsD T], ks) := by
    unfold each; rw [hr]; unfold each; rw [hz']; simp [each]
  refine ⟨(if ks.isEmpty || o.d.flat then h else h.kill ks), ?_⟩
  unfold call
  rw [hs, hall]
  simp only [x, Bool.false_eq_true, if_false, Option.map_some]
theorem takeF_cons (left : Int) (r : Rw) (l : List Rw) : takeF left (r :: l) = if (natF r).choice = true then moreF left r :: takeF (left - moreF left r) l else takeF (left - moreF left r) l := rfl
theorem leftF_cons (left : Int) (r : Rw) (l : List Rw) : leftF left (r :: l) = leftF (left - moreF left r) l := rfl
def BDI (L : List Rw) (W left0 : Int) (k : Nat) (s : St) : Prop := ∃ (x : Env 152) (h : Heap) (i : Nat) (d : D) (acc : List Int) (left : Int), s = ⟨x.l, h, []⟩ ∧ i + k = L.length ∧ x.v 0 = rowsD L ∧ x.v 7 = D.bool true ∧ x.v 13 = D.int W ∧ x.v 14 = D.int left ∧ x.v 15 = d ∧ x.v 16 = D.int i ∧
  Gl h d acc ∧ (0 ≤ left ∧ left ≤ 100000) ∧ acc ++ takeF left (L.drop i) = takeF left0 L ∧ leftF left (L.drop i) = leftF left0 L ∧ h.Fr ∧ 1 < h.next ∧ acc.length ≤ i
set_option maxHeartbeats 4000000 in
theorem bounds_round (L : List Rw) (W left0 : Int) (hl : L.length ≤ 60) (hv : okAll L = true) : ∀ n, 100 ≤ n → ∀ k s, BDI L W left0 k s → Res (k14l0.ev ⟨pg, 152, none⟩ (rc pg n) s) (Rnd (BDI L W left0) (fun x s => x = .exit 0 ∧ BDI L W left0 0 s) k) := by
  rintro n hn k s ⟨x, h, i, d, acc, left, rfl, hik, v0, v7, v13, v14, v15, v16, hd, hleft, hT, hF, hf, hnx, hac⟩
  simp only [rowsD] at v0
  have hfr : ∀ j, h.raw (h.next + j) = none := fun j => hf _ (by omega)
  by_cases hlt : i < L.length
  · obtain ⟨r, hr⟩ : ∃ r, L[i] = r := ⟨_, rfl⟩
    have hdr : L.drop i = r :: L.drop (i + 1) := by rw [List.drop_eq_getElem_cons hlt, hr]
    rw [hdr] at hT hF
    rw [takeF_cons] at hT
    rw [leftF_cons] at hF
    have hval : (natF r).valid = true := by rw [← hr]; exact List.all_eq_true.1 hv _ (List.getElem_mem hlt)
    have hbl := lo_bound r hval
    have hbh := hi_bound r hval
    have hle := lo_hi r hval
    have hw1 : IntKind.i64.wrap ((i : Int) + 1) = (i : Int) + 1 := wrap_i64 (by omega) (by omega)
    have hw2 : IntKind.i64.wrap ((natF r).hi - (natF r).lo) = (natF r).hi - (natF r).lo := wrap_i64 (by omega) (by omega)
    have hm : 0 ≤ moreF left r ∧ moreF left r ≤ (natF r).hi - (natF r).lo ∧ moreF left r ≤ left := by unfold moreF; omega
    have hm' : min left ((natF r).hi - (natF r).lo) = moreF left r := rfl
    have hw3 : IntKind.i64.wrap (left - moreF left r) = left - moreF left r := wrap_i64 (by omega) (by omega)
    have hy1 : yearsF [r] = ((natF r).lo, (natF r).hi, 0) := by
      have : (natsF [r]).2 = 0 := by
        unfold natsF
        rw [if_neg (by simp), if_neg (by simp [okAll, hval]), if_neg (by simp [hiSum]; omega)]
      unfold yearsF
      rw [if_pos this]
      simp [loSum, hiSum]
    have hy := fun h => call_of (h := h) (pg := pg) (f := 32) rfl (rows_canon [r]) (@pyears_run [r] n (by simp; omega))
    rw [hy1] at hy
    simp only [rowsD, rowD, List.map_cons, List.map_nil] at hy
    have t4 : (i : Int) ≤ (i : Int) + 1 := by omega
    have hhead := rows_head L
    have hsl : List.take 1 (List.drop i (List.map rowD L)) = [rowD r] := by
      rw [← List.map_drop, hdr]; rfl
    have hlt' : i + 1 ≤ L.length := hlt
    have t1 : (0 : Int) ≤ (i : Int) + 1 := by omega
    have t2 : ((i : Int) + 1).toNat = i + 1 := by omega
    have t3 : (i : Int) + 1 ≤ L.length := by omega
    by_cases hc : (natF r).choice = true
    · rw [if_pos hc] at hT
      have hk : ((r.k == 3) = true ∨ ((r.k == 3) = false ∧ (r.k == 4) = true) ∨ ((r.k == 3) = false ∧ (r.k == 4) = false ∧ (r.k == 6) = true)) := by
        refine kinds_cases r _ (fun h => ?_) (fun h => ?_) (fun h => ?_) (fun h => ?_) (fun h => ?_) (fun h => ?_) ?_
        · simp [natF, h] at hc
        · simp [natF, h] at hc
        · simp [h]
        · simp [h]
        · simp [natF, h] at hc
        · simp [h]
        · intro _ _ _ _ _ _ a1 a2 a3 a4 a5 a6; simp [natF, a1, a2, a3, a4, a5, a6] at hc
      rcases hd with ⟨rfl, rfl⟩ | ⟨k1, rfl, hg1, hk2, hk3⟩
      · rcases hk with e1 | ⟨e1, e2⟩ | ⟨e1, e2, e3⟩
        all_goals
          simp [k14l0, rowD, D.cells, D.one, *, zerosD, Nat.add_assoc, apK_some, room, maxLen]
          refine ⟨k - 1, by omega, _, _, i + 1, .slr (h.next + 1041) 0 1 1 none, [moreF left r], left - moreF left r, rfl, by omega, by simp [v0, rowsD], by simp [v7], by simp [v13], by simp, by simp, by simp, .inr ⟨h.next + 1041, by simp, by simp, by simp <;> omega, by omega⟩, by omega, by simpa using hT, hF, ?_, by simp <;> omega, by simp⟩
          repeat' first | exact hf | apply Heap.Fr.bump | apply Heap.Fr.set
          all_goals (simp <;> omega)
      · have e4 : ∀ j, (k1 = h.next + j) = False := fun j => by simp; omega
        have e5 : ∀ j, (h.next + j = k1) = False := fun j => by simp; omega
        have happ := fun t hh news => appS_none (t := t) (et := 3) (sz := 1) (bytes := 8) (h := hh) (m := 1) (news := news) (k := k1) (n := acc.length) (cs := acc.map D.int) (by simp) (by omega) (by unfold room; omega) (by unfold maxLen; omega)
        rcases hk with e1 | ⟨e1, e2⟩ | ⟨e1, e2, e3⟩
        · have e2 := e1
          have e3 := e1
          simp [k14l0, v0, v14, v15, v16, hlt, hr, hw1, t2, t3, t4, hhead, hsl, hy, hw2, hm', hw3, rowD, D.cells, D.one, e1, zerosD, hfr, Nat.add_assoc, apK_some, happ, hg1, e4, e5]
          refine ⟨k - 1, by omega, _, _, i + 1, .slr (h.next + 1041) 0 (acc.length + 1) 1 none, acc ++ [moreF left r], left - moreF left r, rfl, by omega, by simp [v0, rowsD], by simp [v7], by simp [v13], by simp, by simp, by simp, .inr ⟨h.next + 1041, by simp, by simp, by simp <;> omega, by omega⟩, by omega, by simpa using hT, hF, ?_, by simp <;> omega, by simp; omega⟩
          repeat' first | exact hf | apply Heap.Fr.bump | apply Heap.Fr.set
          all_goals (simp <;> omega)
        · have e3 := e1
          simp [k14l0, v0, v14, v15, v16, hlt, hr, hw1, t2, t3, t4, hhead, hsl, hy, hw2, hm', hw3, rowD, D.cells, D.one, e1, e2, zerosD, hfr, Nat.add_assoc, apK_some, happ, hg1, e4, e5]
          refine ⟨k - 1, by omega, _, _, i + 1, .slr (h.next + 1041) 0 (acc.length + 1) 1 none, acc ++ [moreF left r], left - moreF left r, rfl, by omega, by simp [v0, rowsD], by simp [v7], by simp [v13], by simp, by simp, by simp, .inr ⟨h.next + 1041, by simp, by simp, by simp <;> omega, by omega⟩, by omega, by simpa using hT, hF, ?_, by simp <;> omega, by simp; omega⟩
          repeat' first | exact hf | apply Heap.Fr.bump | apply Heap.Fr.set
          all_goals (simp <;> omega)
        · simp [k14l0, v0, v14, v15, v16, hlt, hr, hw1, t2, t3, t4, hhead, hsl, hy, hw2, hm', hw3, rowD, D.cells, D.one, e1, e2, e3, zerosD, hfr, Nat.add_assoc, apK_some, happ, hg1, e4, e5]
          refine ⟨k - 1, by omega, _, _, i + 1, .slr (h.next + 1041) 0 (acc.length + 1) 1 none, acc ++ [moreF left r], left - moreF left r, rfl, by omega, by simp [v0, rowsD], by simp [v7], by simp [v13], by simp, by simp, by simp, .inr ⟨h.next + 1041, by simp, by simp, by simp <;> omega, by omega⟩, by omega, by simpa using hT, hF, ?_, by simp <;> omega, by simp; omega⟩
          repeat' first | exact hf | apply Heap.Fr.bump | apply Heap.Fr.set
          all_goals (simp <;> omega)
    · rw [if_neg hc] at hT
      have hk : (r.k == 3) = false ∧ (r.k == 4) = false ∧ (r.k == 6) = false := by
        refine ⟨?_, ?_, ?_⟩ <;> simp <;> intro h <;> simp [natF, h] at hc
      simp [k14l0, v0, v14, v16, hlt, hr, hw1, t2, t3, t4, hhead, hsl, hy, hw2, hm', hw3, rowD, D.cells, hk]
      refine ⟨k - 1, by omega, _, _, i + 1, d, acc, left - moreF left r, rfl, by omega, by simp [v0, rowsD], by simp [v7], by simp [v13], by simp, by simp [v15], by simp, hd.keep (by simp <;> omega) (fun k cs hk => by simpa using hk), by omega, hT, hF, ?_, by simp <;> omega, by omega⟩
      repeat' first | exact hf | apply Heap.Fr.bump | apply Heap.Fr.set
  · simp [k14l0, v0, v16, hlt]
    exact ⟨_, _, i, d, acc, left, rfl, by omega, by simp [v0, rowsD], by simp [v7], by simp [v13], by simp [v14], by simp [v15], by simp [v16], hd.keep (by simp) (fun k cs hk => by simpa using hk), hleft, hT, hF, hf.bump _, by simp <;> omega, hac⟩
set_option maxHeartbeats 4000000 in
theorem bounds_law (rows : List Rw) (picks : List Int) (n : Int) {f : Nat} (hn : 4000000 ≤ f) : pureCall (rc pg f) 14 [rowsD rows, intsD picks, D.int n] = some (.ret (D.bool true)) := by
  obtain ⟨m, hm, e⟩ := body (pg := pg) (f := 14) (args := [rowsD rows, intsD picks, D.int n]) (show 0 < f by omega) rfl rfl
  rw [e]
  have hs := @sane_call m (by omega)
  have a1 := fun h => call_of (h := h) (pg := pg) (f := 52) rfl (rows_canon rows) (@cut_run rows m (by omega))
  obtain ⟨L, hL⟩ : ∃ L, L = rows.take 60 := ⟨_, rfl⟩
  have hl : L.length ≤ 60 := by rw [hL, List.length_take]; omega
  rw [← hL] at a1
  have hc2 : ∀ ys, D.canonL [rowsD L, intsD ys] = true := fun ys => by simp only [rowsD, intsD, D.canonL, D.canon, ints_canon, canonL_map rowD (fun _ => rfl) L]; rfl
  have a2 := fun h => call_of (h := h) (pg := pg) (f := 32) rfl (rows_canon L) (@pyears_run L m (by omega))
  have a3 := fun h => call_of (h := h) (pg := pg) (f := 48) rfl (hc2 picks) (@read_run picks L m (by omega))
  by_cases h4 : (natsF L).2 = 0
  · have hv := ok_of h4
    have hyl : yearsF L = (loSum L, hiSum L, 0) := by unfold yearsF; rw [if_pos h4]
    have hrl : ∀ ps, readL ps L = readF ps 0 L := fun ps => by unfold readL; rw [if_pos h4]
    have hlen := readL_len picks L
    have hlo := loSum_bound L hv
    have hhi := hiSum_bound L hv
    have hrd := rd_len L _ hv (read_rd picks L 0 hv)
    have his : ∀ ps, isF L (readF ps 0 L) = true := fun ps => (is_reads _ _).2 ⟨h4, read_rd ps L 0 hv⟩
    have a4 := fun h => call_of (h := h) (pg := pg) (f := 53) rfl (hc2 (readF picks 0 L)) (@is_run L (readF picks 0 L) (by omega) m (by omega))
    rw [hyl] at a2
    rw [hrl, h4] at a3
    rw [his] at a4
    have c1 : ¬ ((readF picks 0 L).length : Int) < loSum L := by omega
    have c2 : ¬ hiSum L < ((readF picks 0 L).length : Int) := by omega
    have a5 := fun h => call_of (h := h) (pg := pg) (f := 54) rfl rfl (@mod_run n (hiSum L - loSum L + 1) (by omega) (by omega) m (by omega))
    have b1 := Int.emod_nonneg n (show hiSum L - loSum L + 1 ≠ 0 by omega)
    have b2 := Int.emod_lt_of_pos n (show 0 < hiSum L - loSum L + 1 by omega)
    obtain ⟨q, hq⟩ : ∃ q, q = n % (hiSum L - loSum L + 1) := ⟨_, rfl⟩
    rw [← hq] at a5 b1 b2
    have w1 : IntKind.i64.wrap (hiSum L - loSum L) = hiSum L - loSum L := wrap_i64 (by omega) (by omega)
    have w2 : IntKind.i64.wrap (hiSum L - loSum L + 1) = hiSum L - loSum L + 1 := wrap_i64 (by omega) (by omega)
    have w3 : IntKind.i64.wrap (loSum L + q) = loSum L + q := wrap_i64 (by omega) (by omega)
    have w4 : IntKind.i64.wrap (loSum L + q - loSum L) = q := by rw [show loSum L + q - loSum L = q by omega]; exact wrap_i64 (by omega) (by omega)
    simp only [intsD] at a3 a4
    simp [k14, Env.v_ini, intsD, hs, a1, a2, a3, a4, a5, c1, c2, w1, w2, w3, w4, ev_loop]
    refine Res.endsAfter (lp_rule 100 (BDI L (loSum L + q) q) _ (bounds_round L (loSum L + q) q hl hv) L.length m _ (by omega) ⟨_, _, 0, .val (.slice none 0 0), [], q, rfl, by omega, by simp, by simp, by simp, by simp, by simp, by simp, .inl ⟨rfl, rfl⟩, by omega, rfl, rfl, ?_, by simp, by simp⟩) ?_
    · repeat' first | exact Heap.Fr.empty | apply Heap.Fr.bump | apply Heap.Fr.set
    rintro x s ⟨rfl, x, h, i, d, acc, left, rfl, hi, v0, v7, v13, v14, v15, v16, hd, hleft, hT, hF, hf, hnx, hac⟩
    have hi2 : i = L.length := by omega
    rw [hi2, List.drop_length] at hT hF
    simp only [takeF, List.append_nil] at hT
    rw [hT] at hd
    have hd2 : Gl (h.bump 152) d (takeF q L) := hd.keep (by simp) (fun k cs hk => by simpa using hk)
    obtain ⟨h', hcl⟩ := call_gl hd2 (f := 48) rfl L (@read_run (takeF q L) L m (by omega))
    rw [hrl, h4] at hcl
    have hlen2 := read_len L q [] hv (by omega)
    rw [left_zero L q hv (by omega) (by omega)] at hlen2
    simp only [List.nil_append, List.length_nil] at hlen2
    have hlen3 : (((readF (takeF q L) 0 L).length : Int) == loSum L + q) = true := by simp; omega
    have a6 := fun h => call_of (h := h) (pg := pg) (f := 53) rfl (hc2 (readF (takeF q L) 0 L)) (@is_run L (readF (takeF q L) 0 L) (by omega) m (by omega))
    rw [his] at a6
    simp only [intsD] at hcl a6
    simp [v0, v7, v13, v15, hcl, hlen3, a6]
  · have hyl : yearsF L = (0, 0, (natsF L).2) := by unfold yearsF; rw [if_neg h4]
    rw [hyl] at a2
    have h4' : ((natsF L).2 != 0) = true := by simpa using h4
    simp [k14, Env.v_ini, hs, a1, a2, a3, h4']
end Go.Proofs.YthgnholbajpdgaaDoor
/- Whatever rows and numbers it is called with, the code of SheetReadings returns true. -/
namespace Go.Proofs.YthgnholbajpdgaaDoor
open Go Go.Em
set_option maxRecDepth 100000
theorem call_ints {h : Heap} {k n : Nat} {c : Option Nat} {M : List Int} (hg : h.get k = some (.cells 3 (M.map D.int))) (hn : n = M.length) {f : FuncId} {R : Rc} {b : Bool} (hs : pg.sh f = false) (l : List Rw) (x : pureCall R f [rowsD l, intsD M] = some (.ret (D.bool b))) : call pg R f [rowsD l, .slr k 0 n 1 c] h = some (.ret (D.bool b), h) := by
  subst hn
  have hr : frz h depth (rowsD l) = some (rowsD l, []) := frz_canon (by simp [rowsD, canonL_map rowD (fun _ => rfl) l])
  have htk : (M.map D.int).take M.length = M.map D.int := List.take_of_length_le (by simp)
  have hch := chunk_one M
  have hz : frz h depth (.slr k 0 M.length 1 c) = some (intsD M, [k]) := by
    show frz h (23 + 1) _ = _
    rw [frz_slr, hg, frzS_cells]; simp [htk, hch, each_canon _ 22 _ (ints_canon M), intsD]
  have hall : each (frz h depth) [rowsD l, .slr k 0 M.length 1 c] = some ([rowsD l, intsD M], [k]) := by
    unfold each; rw [hr]; unfold each; rw [hz]; simp [each]
  unfold call
  rw [hs, hall]
  simp only [x, Bool.false_eq_true, if_false, Option.map_some]
  rfl
theorem call_nil {h : Heap} {f : FuncId} {R : Rc} {o : Out} (hs : pg.sh f = false) (l : List Rw) (x : pureCall R f [rowsD l, intsD []] = some o) : call pg R f [rowsD l, .val (.slice none 0 0)] h = some (o, h) := by
  have hr : frz h depth (rowsD l) = some (rowsD l, []) := frz_canon (by simp [rowsD, canonL_map rowD (fun _ => rfl) l])
  have hz : frz h depth (.val (.slice none 0 0)) = some (intsD [], []) := frz_nil
  have hall : each (frz h depth) [rowsD l, .val (.slice none 0 0)] = some ([rowsD l, intsD []], []) := by
    unfold each; rw [hr]; unfold each; rw [hz]; simp [each]
  unfold call
  rw [hs, hall]
  simp [x]
theorem slc_to (k a n len : Nat) (h : a ≤ n) : sliceR k 0 1 none 0 (a : Int) none (upTo none n 0 1 len) = some (.slr k 0 a 1 none) := by
  unfold sliceR upTo mxOk mxCap
  have h1 : (a : Int) ≤ n := by omega
  simp [h1]
theorem slc_from (k a n len : Nat) (h : a < n) : sliceR k 0 1 none (a : Int) (n : Int) none (upTo none n 0 1 len) = some (.slr k a (n - a) 1 none) := by
  unfold sliceR upTo mxOk mxCap
  have h1 : (a : Int) ≤ n := by omega
  have h2 : ¬ ((a : Int) = n) := by omega
  simp [h1, h2]
theorem slc_end (k n len : Nat) (h : 0 < n) : sliceR k 0 1 none (n : Int) (n : Int) none (upTo none n 0 1 len) = some (.sl false []) := by
  unfold sliceR upTo mxOk mxCap
  have h1 : n ≠ 0 := by omega
  simp [h1]
theorem cells_ints : ∀ l : List Int, (l.map D.int).flatMap D.cells = l.map D.int
  | [] => rfl
  | a :: l => by rw [List.map_cons, List.flatMap_cons, cells_ints l]; rfl
theorem slc_from1 (k a n len : Nat) (h : a + 1 < n) : sliceR k 0 1 none ((a : Int) + 1) (n : Int) none (upTo none n 0 1 len) = some (.slr k (a + 1) (n - (a + 1)) 1 none) := slc_from k (a + 1) n len h
theorem slc_end1 (k a n len : Nat) (h : a + 1 = n) : sliceR k 0 1 none ((a : Int) + 1) (n : Int) none (upTo none n 0 1 len) = some (.sl false []) := by
  subst h; exact slc_end k (a + 1) len (by omega)
theorem ones_of {l : List D} {Y : List Int} (h : ∀ d ∈ l, d ∈ Y.map D.int) : l.all D.one = true := by
  rw [List.all_eq_true]
  intro d hd
  obtain ⟨a, _, rfl⟩ := List.mem_map.1 (h d hd)
  rfl
theorem appS_zero {t et sz bytes : Nat} {h : Heap} {m : Nat} {news cs : List D} {k : Nat} {ty : TypeId} (h0 : 0 < m) (hr : m * bytes ≤ room) (hm : m ≤ maxLen) :
    appS t et sz bytes h m news k 0 0 sz (some 0) (some (.cells ty cs)) = (h.alloc t (.cells et news)).map fun h => (.slr t 0 m sz none, h) := by
  unfold appS
  simp [hr, hm, show ¬ m = 0 by omega]
set_option maxHeartbeats 16000000 in
theorem readings_law (rows : List Rw) (picks : List Int) (n0 n1 n2 : Int) {f : Nat} (hn : 4000000 ≤ f) : pureCall (rc pg f) 11 [rowsD rows, intsD picks, .agg [D.int n0, D.int n1, D.int n2]] = some (.ret (D.bool true)) := by
  obtain ⟨m, hm, e⟩ := body (pg := pg) (f := 11) (args := [rowsD rows, intsD picks, .agg [D.int n0, D.int n1, D.int n2]]) (show 0 < f by omega) rfl rfl
  rw [e]
  have hs := @sane_call m (by omega)
  have a1 := fun h => call_of (h := h) (pg := pg) (f := 52) rfl (rows_canon rows) (@cut_run rows m (by omega))
  obtain ⟨L, hL⟩ : ∃ L, L = rows.take 60 := ⟨_, rfl⟩
  have hl : L.length ≤ 60 := by rw [hL, List.length_take]; omega
  rw [← hL] at a1
  have hc2 : ∀ ys, D.canonL [rowsD L, intsD ys] = true := fun ys => by simp only [rowsD, intsD, D.canonL, D.canon, ints_canon, canonL_map rowD (fun _ => rfl) L]; rfl
  have a3 := fun h => call_of (h := h) (pg := pg) (f := 49) rfl (hc2 picks) (@rread_run picks L m (by omega))
  obtain ⟨Y, hY⟩ : ∃ Y, Y = readL picks L := ⟨_, rfl⟩
  have hlen := readL_len picks L
  rw [← hY] at a3 hlen
  simp only [intsD] at a3
  by_cases h4 : (natsF L).2 = 0
  · have hv := ok_of h4
    have hYr : Y = readF picks 0 L := by rw [hY]; unfold readL; rw [if_pos h4]
    have his : isF L Y = true := by rw [hYr]; exact (is_reads _ _).2 ⟨h4, read_rd picks L 0 hv⟩
    have a4 := fun h => call_of (h := h) (pg := pg) (f := 53) rfl (hc2 Y) (@is_run L Y (by omega) m (by omega))
    rw [his] at a4
    rw [h4] at a3
    have hrdlen := rd_len L Y hv (by rw [hYr]; exact read_rd picks L 0 hv)
    have hhi := hiSum_bound L hv
    have e3 := fun h => call_of (h := h) (pg := pg) (f := 54) rfl rfl (@mod_run n1 3 (by omega) (by omega) m (by omega))
    have e5 := @mod_run n2 5 (by omega) (by omega) m (by omega)
    have e6 := @mod_run n2 3 (by omega) (by omega) m (by omega)
    have s1 : pg.sh 54 = false := rfl
    obtain ⟨how, hhow⟩ : ∃ how, how = n1 % 3 := ⟨_, rfl⟩
    obtain ⟨b5, hb5⟩ : ∃ b5, b5 = n2 % 5 := ⟨_, rfl⟩
    obtain ⟨b3, hb3⟩ : ∃ b3, b3 = n2 % 3 := ⟨_, rfl⟩
    rw [← hhow] at e3
    rw [← hb5] at e5
    rw [← hb3] at e6
    have hb5' : 0 ≤ b5 ∧ b5 < 5 := by omega
    have hb3' : 0 ≤ b3 ∧ b3 < 3 := by omega
    have q53 := fun (M : List Int) (hM : M.length ≤ 100000) (h : Heap) (k n : Nat) (c : Option Nat) (hg : h.get k = some (.cells 3 (M.map D.int))) (hn : n = M.length) => call_ints (c := c) hg hn (f := 53) rfl L (@is_run L M (by omega) m (by omega))
    have q55 := fun (M : List Int) (hM : M.length ≤ 100000) (h : Heap) (k n : Nat) (c : Option Nat) (hg : h.get k = some (.cells 3 (M.map D.int))) (hn : n = M.length) => call_ints (c := c) hg hn (f := 55) rfl L (@ris_run L M (by omega) m (by omega))
    simp only [intsD] at a4
    have z1 := fun t hh news k ty cs => appS_zero (t := t) (et := 3) (sz := 1) (bytes := 8) (h := hh) (m := 1) (news := news) (k := k) (ty := ty) (cs := cs) (by omega) (by unfold room; omega) (by unfold maxLen; omega)
    have hcases : how = 0 ∨ how = 1 ∨ how = 2 := by omega
    by_cases hY0 : Y.length = 0
    · have hYn : Y = [] := List.eq_nil_of_length_eq_zero hY0
      subst hYn
      simp only [List.map_nil] at a3 a4
      rcases hcases with rfl | rfl | rfl
      · simp [k11, Env.v_ini, intsD, hs, a1, a3, a4, e3, zerosD, D.cells, D.one, apK_zero_slr]
        rw [q53 ([]) (by simp)]
        rotate_left
        · simp
        · simp
        simp
        rw [q55 ([]) (by simp)]
        rotate_left
        · simp
        · simp
        simp
      · simp [k11, Env.v_ini, intsD, hs, a1, a3, a4, e3, zerosD, D.cells, D.one, apK_zero_slr]
        rw [q53 ([]) (by simp)]
        rotate_left
        · simp
        · simp
        simp
        rw [q55 ([]) (by simp)]
        rotate_left
        · simp
        · simp
        simp
      · simp [k11, Env.v_ini, intsD, hs, a1, a3, a4, e3, zerosD, D.cells, D.one, apK_zero_slr, apK_some, dcore_f, s1, e6, sliceR, upTo, mxOk, mxCap, z1]
        rw [q53 ([b3]) (by simp)]
        rotate_left
        · simp
        · simp
        simp
        rw [q55 ([b3]) (by simp)]
        rotate_left
        · simp
        · simp
        simp
    · have hYp : 0 < Y.length := by omega
      have hYp' : (0 : Int) < Y.length := by omega
      have hYne : Y ≠ [] := by rintro rfl; simp at hYp
      have e0 := fun h => call_of (h := h) (pg := pg) (f := 54) rfl rfl (@mod_run n0 Y.length (by omega) (by omega) m (by omega))
      obtain ⟨at', hat⟩ : ∃ a : Nat, (a : Int) = n0 % Y.length := ⟨(n0 % Y.length).toNat, by have := Int.emod_nonneg n0 (show (Y.length : Int) ≠ 0 by omega); omega⟩
      have hlt : at' < Y.length := by have := Int.emod_lt_of_pos n0 hYp'; omega
      rw [← hat] at e0
      have hroom : Y.length * 8 ≤ room := by unfold room; omega
      have hmax : Y.length ≤ maxLen := by unfold maxLen; omega
      have zY := fun t hh news k ty cs => appS_zero (t := t) (et := 3) (sz := 1) (bytes := 8) (h := hh) (m := Y.length) (news := news) (k := k) (ty := ty) (cs := cs) hYp hroom hmax
      have hfm := cells_ints Y
      have hle1 : at' + 1 ≤ Y.length := hlt
      have w1 : IntKind.i64.wrap 1 = 1 := by decide
      have tk1 : List.take (Y.length - 1) (List.map D.int Y).tail = (List.map D.int Y).tail := List.take_of_length_le (by simp)
      have tk0 : List.take Y.length (List.map D.int Y) = List.map D.int Y := List.take_of_length_le (by simp)
      have tkD : ∀ a, List.take (Y.length - a) (List.drop a (List.map D.int Y)) = List.drop a (List.map D.int Y) := fun a => List.take_of_length_le (by simp)
      have o1 : ∀ a, (List.take a (Y.map D.int)).all D.one = true := fun a => ones_of fun d hd => List.mem_of_mem_take hd
      have o2 : ∀ a b, (List.take a (List.drop b (Y.map D.int))).all D.one = true := fun a b => ones_of fun d hd => List.mem_of_mem_drop (List.mem_of_mem_take hd)
      have o3 : ∀ a, (List.take a (Y.map D.int).tail).all D.one = true := fun a => ones_of fun d hd => List.mem_of_mem_tail (List.mem_of_mem_take hd)
      have o4 : (Y.map D.int).all D.one = true := ones_of fun d hd => hd
      obtain ⟨v, hvv⟩ : ∃ v, Y[at'] = v := ⟨_, rfl⟩
      rcases hcases with rfl | rfl | rfl
      · simp [k11, Env.v_ini, intsD, hs, a1, a3, a4, e3, zerosD, D.cells, D.one, apK_some, dcore_f, s1, e0, zY, hYp, hYne, hlt, hfm, hle1, e5, hvv]
        rw [q53 (Y.take at' ++ IntKind.i64.wrap (IntKind.i64.wrap (v + b5) - 2) :: Y.drop (at' + 1)) (by simp; omega)]
        rotate_left
        · simp
        · simp <;> omega
        simp
        rw [q55 (Y.take at' ++ IntKind.i64.wrap (IntKind.i64.wrap (v + b5) - 2) :: Y.drop (at' + 1)) (by simp; omega)]
        rotate_left
        · simp
        · simp <;> omega
        simp
      · have hw1 : IntKind.i64.wrap ((at' : Int) + 1) = (at' : Int) + 1 := wrap_i64 (by omega) (by omega)
        have sT := fun len => slc_to 706 at' Y.length len (by omega)
        by_cases hend : at' + 1 = Y.length
        · have sE := fun len => slc_end1 706 at' Y.length len hend
          by_cases hz : at' = 0
          · subst hz
            have hend1 : Y.length = 1 := by omega
            have e0' : ∀ h, call pg (rc pg m) 54 [D.int n0, D.int 1] h = some (.ret (D.int 0), h) := fun h => by have := e0 h; rw [hend1] at this; exact this
            simp [e0', k11, Env.v_ini, intsD, hs, a1, a3, a4, e3, zerosD, D.cells, D.one, apK_zero_slr, apK_some, hfm, w1, o4, z1, sliceR, upTo, mxOk, mxCap, hend1]
            rw [q53 ([]) (by simp)]
            rotate_left
            · simp
            · simp
            simp
            rw [q55 ([]) (by simp)]
            rotate_left
            · simp
            · simp
            simp
          · have zA := fun t hh news k ty cs => appS_zero (t := t) (et := 3) (sz := 1) (bytes := 8) (h := hh) (m := at') (news := news) (k := k) (ty := ty) (cs := cs) (by omega) (by omega) (by omega)
            have hat0 : 0 < at' := by omega
            have hale : at' ≤ Y.length := by omega
            simp [k11, Env.v_ini, intsD, hs, a1, a3, a4, e3, zerosD, D.cells, D.one, apK_zero_slr, apK_some, e0, zY, hYp, hYne, hfm, o1, o4, sT, sE, zA, hw1, hz, hale]
            rw [q53 (Y.take at') (by simp; omega)]
            rotate_left
            · simp
            · simp <;> omega
            simp
            rw [q55 (Y.take at') (by simp; omega)]
            rotate_left
            · simp
            · simp <;> omega
            simp
        · have sE := fun len => slc_from1 706 at' Y.length len (by omega)
          by_cases hz : at' = 0
          · subst hz
            have hge1 : (1 : Int) ≤ Y.length := by omega
            have hne1 : ¬ (1 : Int) = Y.length := by omega
            have hlen1 : ¬ Y.length - 1 = 0 := by omega
            have hle2 : 1 + (Y.length - 1) ≤ Y.length := by omega
            have zB := fun t hh news k ty cs => appS_zero (t := t) (et := 3) (sz := 1) (bytes := 8) (h := hh) (m := Y.length - 1) (news := news) (k := k) (ty := ty) (cs := cs) (by omega) (by omega) (by omega)
            simp [k11, Env.v_ini, intsD, hs, a1, a3, a4, e3, zerosD, D.cells, D.one, apK_zero_slr, apK_some, e0, zY, hYp, hYne, hfm, hle1, w1, o3, o4, sliceR, upTo, mxOk, mxCap, hge1, hne1, hlen1, zB]
            rw [q53 (Y.drop 1) (by simp; omega)]
            rotate_left
            · simp [tk1]
            · simp <;> omega
            simp
            rw [q55 (Y.drop 1) (by simp; omega)]
            rotate_left
            · simp [tk1]
            · simp <;> omega
            simp
          · have zA := fun t hh news k ty cs => appS_zero (t := t) (et := 3) (sz := 1) (bytes := 8) (h := hh) (m := at') (news := news) (k := k) (ty := ty) (cs := cs) (by omega) (by omega) (by omega)
            have hat0 : 0 < at' := by omega
            have hale : at' ≤ Y.length := by omega
            have hlen1 : ¬ Y.length - (at' + 1) = 0 := by omega
            have hle2 : at' + 1 + (Y.length - (at' + 1)) ≤ Y.length := by omega
            have zN := fun t hh news k => appS_none (t := t) (et := 3) (sz := 1) (bytes := 8) (h := hh) (m := Y.length - (at' + 1)) (news := news) (k := k) (n := at') (cs := (Y.map D.int).take at') (by simp; try omega) (by omega) (by unfold room; omega) (by unfold maxLen; omega)
            simp [k11, Env.v_ini, intsD, hs, a1, a3, a4, e3, zerosD, D.cells, D.one, apK_some, e0, zY, hYp, hYne, hfm, hle1, o1, o2, o4, sT, sE, zA, hw1, hz, hale, hlen1, zN]
            rw [q53 (Y.take at' ++ Y.drop (at' + 1)) (by simp; omega)]
            rotate_left
            · simp [tkD]
            · simp <;> omega
            simp
            rw [q55 (Y.take at' ++ Y.drop (at' + 1)) (by simp; omega)]
            rotate_left
            · simp [tkD]
            · simp <;> omega
            simp
      · have sT := fun len => slc_to 706 at' Y.length len (by omega)
        have sF := fun len => slc_from 706 at' Y.length len hlt
        by_cases hz : at' = 0
        · subst hz
          have zN := fun t hh news k => appS_none (t := t) (et := 3) (sz := 1) (bytes := 8) (h := hh) (m := Y.length) (news := news) (k := k) (n := 1) (cs := [D.int b3]) (by simp; try omega) (by omega) (by unfold room; omega) (by unfold maxLen; omega)
          simp [k11, Env.v_ini, intsD, hs, a1, a3, a4, e3, zerosD, D.cells, D.one, apK_zero_slr, apK_some, dcore_f, s1, e0, zY, hYp, hYne, hfm, o1, o4, sliceR, upTo, mxOk, mxCap, e6, z1, zN]
          rw [q53 (b3 :: Y) (by simp; omega)]
          rotate_left
          · simp [tk0]
          · simp <;> omega
          simp
          rw [q55 (b3 :: Y) (by simp; omega)]
          rotate_left
          · simp [tk0]
          · simp <;> omega
          simp
        · have zA := fun t hh news k ty cs => appS_zero (t := t) (et := 3) (sz := 1) (bytes := 8) (h := hh) (m := at') (news := news) (k := k) (ty := ty) (cs := cs) (by omega) (by omega) (by omega)
          have hat0 : 0 < at' := by omega
          have hale : at' ≤ Y.length := by omega
          have hlen1 : ¬ Y.length - at' = 0 := by omega
          have hle2 : at' + (Y.length - at') ≤ Y.length := by omega
          have zM := fun t hh news k => appS_none (t := t) (et := 3) (sz := 1) (bytes := 8) (h := hh) (m := 1) (news := news) (k := k) (n := at') (cs := (Y.map D.int).take at') (by simp; try omega) (by omega) (by unfold room; omega) (by unfold maxLen; omega)
          have zN := fun t hh news k => appS_none (t := t) (et := 3) (sz := 1) (bytes := 8) (h := hh) (m := Y.length - at') (news := news) (k := k) (n := at' + 1) (cs := (Y.map D.int).take at' ++ [D.int b3]) (by simp; try omega) (by omega) (by unfold room; omega) (by unfold maxLen; omega)
          simp [k11, Env.v_ini, intsD, hs, a1, a3, a4, e3, zerosD, D.cells, D.one, apK_some, dcore_f, s1, e0, zY, hYp, hYne, hfm, o1, o2, o4, sT, sF, zA, hz, hale, hlen1, e6, zM, zN]
          rw [q53 (Y.take at' ++ b3 :: Y.drop at') (by simp; omega)]
          rotate_left
          · simp [tkD]
          · simp <;> omega
          simp
          rw [q55 (Y.take at' ++ b3 :: Y.drop at') (by simp; omega)]
          rotate_left
          · simp [tkD]
          · simp <;> omega
          simp
  · have h4' : ((natsF L).2 != 0) = true := by simpa using h4
    have hno : isF L [] = false := by unfold isF; simp [h4]
    have b1 := fun h => call_nil (h := h) (f := 53) rfl L (@is_run L [] (by simp) m (by simp; omega))
    rw [hno] at b1
    simp [k11, Env.v_ini, intsD, hs, a1, a3, h4', b1, D.cells, D.one]
end Go.Proofs.YthgnholbajpdgaaDoor
