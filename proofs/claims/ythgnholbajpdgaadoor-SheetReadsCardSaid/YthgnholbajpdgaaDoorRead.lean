/- Readings of rows. -/
import Derived.Test.YthgnholbajpdgaaDoorThick
namespace Go.Proofs.YthgnholbajpdgaaDoor
open Go Go.Em
set_option maxRecDepth 100000
theorem chunk_one : ∀ l : List Int, chunk 1 l.length (l.map D.int) = l.map D.int
  | [] => rfl
  | a :: l => by
    rw [List.length_cons, List.map_cons, chunk, if_pos rfl]
    simp only [List.getD_cons_zero, List.drop_succ_cons, List.drop_zero]
    rw [chunk_one l]
/-- So many years of a row. -/
def yoF (t : Nt) (c : Int) : List Int := if t.hides = true then List.replicate c.toNat 0 else if c < t.layers.length then [t.layers.sum] else t.layers
theorem yearsOf_run (t : Nt) (hs : small t.layers) (hl : t.layers.length ≤ 2) (c : Int) (h0 : 0 ≤ c) (hc : c ≤ 10000) {n : Nat} (hn : 20 ≤ n) : pureCall (rc pg n) 92 [natD t, D.int c] = some (.ret (intsD (yoF t c))) := by
  obtain ⟨m, rfl, e⟩ := body (pg := pg) (f := 92) (args := [natD t, D.int c]) (show 0 < n by omega) rfl rfl
  rw [e]
  have hsum := fun h => call_of (h := h) (pg := pg) (f := 82) rfl (by simp [intsD, canonL_map D.int (fun _ => rfl)]) (@sum_run t.layers (by omega) hs m (by omega))
  simp only [intsD] at hsum
  by_cases hh : t.hides = true
  · have hroom : 8 * c ≤ room := by unfold room; omega
    have hz : List.replicate c.toNat (D.val (.int .i64 0)) = (List.replicate c.toNat 0).map D.int := by rw [List.map_replicate]
    have hcan : D.canonL ((List.replicate c.toNat 0).map D.int) = true := canonL_map D.int (fun _ => rfl) _
    have hch := chunk_one (List.replicate c.toNat 0)
    rw [List.length_replicate] at hch
    have hrep : D.canonL (List.replicate c.toNat (D.int 0)) = true := by rw [hz]; exact hcan
    have hch' : chunk 1 c.toNat (List.replicate c.toNat (D.int 0)) = List.replicate c.toNat (D.int 0) := by rw [hz]; exact hch
    simp [k92, Env.v_ini, natD, natC, D.cells, D.one, hh, h0, hroom, zeros_one, yoF, intsD]
    exact ⟨_, ⟨_, each_canon _ 22 _ hrep⟩, hch'⟩
  · by_cases hlt : c < t.layers.length
    · simp [k92, Env.v_ini, natD, natC, D.cells, D.one, hh, hlt, hsum, zerosD, yoF, intsD, chunk]
    · simp [k92, Env.v_ini, natD, natC, D.cells, D.one, hh, hlt, yoF, intsD]
theorem rpick_run (l : List Int) (taken : Nat) {n : Nat} (hn : 1 ≤ n) : pureCall (rc pg n) 93 [intsD l, D.int taken] = some (.ret (D.int (if l = [] then 0 else l.getD (taken % l.length) 0))) := by
  obtain ⟨m, rfl, e⟩ := body (pg := pg) (f := 93) (args := [intsD l, D.int taken]) (show 0 < n by omega) rfl rfl
  rw [e]
  by_cases h0 : l.length = 0
  · have hl : l = [] := List.eq_nil_of_length_eq_zero h0
    subst hl
    simp [k93, Env.v_ini, intsD]
  · have hl : l ≠ [] := fun h => h0 (by rw [h]; rfl)
    have h0' : ((l.length : Int) == 0) = false := by simp; exact hl
    have h0n : (l.length : Int) ≠ 0 := by omega
    obtain ⟨j, hj⟩ : ∃ j, j = taken % l.length := ⟨_, rfl⟩
    have hlt : j < l.length := by rw [hj]; exact Nat.mod_lt _ (by omega)
    have ht : (taken : Int).tmod (l.length : Int) = (j : Int) := by rw [hj, Int.tmod_eq_emod_of_nonneg (by omega)]; omega
    obtain ⟨p, hp⟩ : ∃ p, l[j] = p := ⟨_, rfl⟩
    have hg' : l[taken % l.length]?.getD 0 = p := by rw [← hj, List.getElem?_eq_getElem hlt, hp]; rfl
    simp [k93, Env.v_ini, intsD, h0', hl, bin_rem, ht, hlt, hp, D.cells, hg']
theorem mod_run (p c : Int) (h0 : 0 < c) (hc : c ≤ 1000000) {n : Nat} (hn : 1 ≤ n) : pureCall (rc pg n) 54 [D.int p, D.int c] = some (.ret (D.int (p % c))) := by
  obtain ⟨m, rfl, e⟩ := body (pg := pg) (f := 54) (args := [D.int p, D.int c]) (show 0 < n by omega) rfl rfl
  rw [e]
  have hcn : c ≠ 0 := by omega
  have hm1 := Int.emod_nonneg p hcn
  have hm2 := Int.emod_lt_of_pos p h0
  have ht : p.tmod c = p % c ∨ p.tmod c = p % c - c := by
    rw [Int.tmod_eq_emod]
    split
    · left; simp
    · right; omega
  have hw : IntKind.i64.wrap (p.tmod c + c) = p.tmod c + c := wrap_i64 (by omega) (by omega)
  have hr : (p.tmod c + c).tmod c = p % c := by
    rw [Int.tmod_eq_emod_of_nonneg (by omega), Int.add_emod_right]
    rcases ht with h | h <;> rw [h]
    · rw [Int.emod_emod]
    · rw [Int.sub_emod, Int.emod_self, Int.sub_zero, Int.emod_emod, Int.emod_emod]
  simp [k54, Env.v_ini, bin_rem, hcn, hw, hr]
end Go.Proofs.YthgnholbajpdgaaDoor
/- Readings of rows, by the program. -/
namespace Go.Proofs.YthgnholbajpdgaaDoor
open Go Go.Em
set_option maxRecDepth 100000
/-- A list of numbers grows by another one. -/
theorem Gl.app {H : Heap} {d : D} {l : List Int} (g : Gl H d l) (Y : List Int) {t : Nat} (hr : H.raw t = none) (ht : t < H.next) (h1 : 1 < t) (hb : l.length + Y.length ≤ 10000000) :
    ∃ d' H', apK t 3 1 8 H d (some (Y.length, Y.map D.int)) = some (d', H') ∧ H'.next = H.next ∧ (H.Fr → H'.Fr) ∧ Gl H' d' (l ++ Y) ∧ ∀ p cs, p ≠ t → H.get p = some (.cells 23 cs) → H'.get p = some (.cells 23 cs) := by
  have hall : (Y.map D.int).all D.one = true := by simp [D.one]
  by_cases hY : Y = []
  · subst hY
    rcases g with ⟨rfl, rfl⟩ | ⟨k, rfl, hg, a, b⟩
    · exact ⟨_, H, apK_zero_nil, rfl, id, .inl ⟨rfl, rfl⟩, fun _ _ _ h => h⟩
    · exact ⟨_, H, apK_zero_slr _ _ _ _ _, rfl, id, .inr ⟨k, by rw [List.append_nil], by rw [List.append_nil]; exact hg, a, b⟩, fun _ _ _ h => h⟩
  · have hn0 : Y.length ≠ 0 := fun h => hY (List.eq_nil_of_length_eq_zero h)
    rcases g with ⟨rfl, rfl⟩ | ⟨k, rfl, hg, a, b⟩
    · refine ⟨.slr t 0 Y.length 1 none, H.set t (some (.cells 3 (Y.map D.int))), ?_, by simp, fun f => f.set _ ht, .inr ⟨t, by simp, by simp, by simpa using ht, h1⟩, fun p cs hp hg => by rw [Heap.get_set, if_neg hp]; exact hg⟩
      rw [apK_some _ hall hn0, appD_nil, if_pos ⟨by unfold room; simp at hb; omega, by unfold maxLen; simp at hb; omega⟩, Heap.alloc_of hr]
      rfl
    · have hkt : t ≠ k := by
        rintro rfl
        have := Heap.raw_of_get hg
        rw [hr] at this
        cases this
      refine ⟨.slr t 0 (l.length + Y.length) 1 none, (H.set k none).set t (some (.cells 3 (l.map D.int ++ Y.map D.int))), ?_, by simp, fun f => (f.set _ a).set _ (by simpa using ht), .inr ⟨t, by simp, by simp, by simpa using ht, h1⟩, fun p cs hp hg' => by rw [Heap.get_set, if_neg hp, Heap.get_set, if_neg (by rintro rfl; rw [hg] at hg'; cases hg')]; exact hg'⟩
      rw [apK_some _ hall hn0, appD_slr, hg, appS_none (by simp) (by omega) (by unfold room; omega) (by unfold maxLen; omega), Heap.alloc_of (by rw [Heap.raw_set, if_neg hkt]; exact hr)]
      rfl
def rowN (picks : List Int) (taken : Nat) (r : Rw) : Int := if (natF r).choice = true then pickF picks taken ((natF r).hi - (natF r).lo + 1) else 0
def tk (taken : Nat) (r : Rw) : Nat := if (natF r).choice = true then taken + 1 else taken
def readF (picks : List Int) : Nat → List Rw → List Int
  | _, [] => []
  | t, r :: l => yoF (natF r) ((natF r).lo + rowN picks t r) ++ readF picks (tk t r) l
theorem lo_hi (r : Rw) (hv : (natF r).valid = true) : (natF r).lo ≤ (natF r).hi := by
  unfold natF at hv ⊢
  repeat' split
  all_goals simp_all [inB]
  all_goals omega
theorem pick_bound (picks : List Int) (taken : Nat) (c : Int) (hc : 1 ≤ c) : 0 ≤ pickF picks taken c ∧ pickF picks taken c < c := by
  unfold pickF
  split
  · omega
  · exact ⟨Int.emod_nonneg _ (by omega), Int.emod_lt_of_pos _ (by omega)⟩
theorem rowN_bound (picks : List Int) (taken : Nat) (r : Rw) (hv : (natF r).valid = true) : 0 ≤ rowN picks taken r ∧ rowN picks taken r ≤ 1000 := by
  have h1 := lo_hi r hv
  have h2 := hi_bound r hv
  have h3 := lo_bound r hv
  unfold rowN
  split
  · have := pick_bound picks taken ((natF r).hi - (natF r).lo + 1) (by omega)
    omega
  · omega
theorem yoF_len (t : Nt) (c : Int) (h : t.layers.length ≤ 2) (hc : c ≤ 9000) : (yoF t c).length ≤ 9000 := by
  unfold yoF
  split
  · simp; omega
  · split
    · simp
    · omega
def RDI (picks : List Int) (l : List Rw) (k : Nat) (s : St) : Prop := ∃ (x : Env 51) (h : Heap) (i taken : Nat) (d : D) (acc : List Int), s = ⟨x.l, h, []⟩ ∧ i + k = l.length ∧ x.v 1 = intsD picks ∧ x.v 21 = natsD (l.map natF) ∧ x.v 22 = D.int l.length ∧ x.v 23 = D.int i ∧ x.v 9 = D.int taken ∧ x.v 8 = d ∧
  Gl h d acc ∧ acc.length ≤ 9000 * i ∧ taken ≤ i ∧ readF picks 0 l = acc ++ readF picks taken (l.drop i) ∧ h.Fr ∧ 1 < h.next
set_option maxHeartbeats 2000000 in
theorem read_round (picks : List Int) (l : List Rw) (hl : l.length ≤ 400) (hv : okAll l = true) : ∀ n, 30 ≤ n → ∀ k s, RDI picks l k s → Res (k48l0.ev ⟨pg, 51, none⟩ (rc pg n) s) (Rnd (RDI picks l) (fun x s => x = .exit 0 ∧ RDI picks l 0 s) k) := by
  rintro n hn k s ⟨x, h, i, taken, d, acc, rfl, hik, v1, v21, v22, v23, v9, v8, hd, hacc, htk, hrd, hf, hn1⟩
  simp only [natsD] at v21
  have hfr : ∀ j, h.raw (h.next + j) = none := fun j => hf _ (by omega)
  by_cases hlt : i < l.length
  · obtain ⟨r, hr⟩ : ∃ r, l[i] = r := ⟨l[i], rfl⟩
    have hdr : l.drop i = r :: l.drop (i + 1) := by rw [List.drop_eq_getElem_cons hlt, hr]
    have hval : (natF r).valid = true := by
      unfold okAll at hv
      rw [List.all_eq_true] at hv
      exact hv r (by rw [← hr]; exact List.getElem_mem hlt)
    obtain ⟨q1, q2, _⟩ := nat_small r hval
    have b1 := lo_hi r hval
    have b2 := hi_bound r hval
    have b3 := lo_bound r hval
    have b4 := rowN_bound picks taken r hval
    have hw1 : IntKind.i64.wrap ((i : Int) + 1) = (i : Int) + 1 := wrap_i64 (by omega) (by omega)
    obtain ⟨Y, hY⟩ : ∃ Y, Y = yoF (natF r) ((natF r).lo + rowN picks taken r) := ⟨_, rfl⟩
    have hYl : Y.length ≤ 9000 := by rw [hY]; exact yoF_len _ _ q2 (by omega)
    have hyo := fun h => call_of (h := h) (pg := pg) (f := 92) rfl (by simp [natD_canon]) (@yearsOf_run (natF r) q1 q2 ((natF r).lo + rowN picks taken r) (by omega) (by omega) n (by omega))
    rw [← hY] at hyo
    simp only [natD, natC, intsD] at hyo
    rw [hdr, readF, ← hY] at hrd
    have hcells : (Y.map D.int).flatMap D.cells = Y.map D.int := by
      clear hY hYl hyo hrd
      induction Y with
      | nil => rfl
      | cons a Y ih => rw [List.map_cons, List.flatMap_cons, ih]; rfl
    by_cases hch : (natF r).choice = true
    · have ew : rowN picks taken r = pickF picks taken ((natF r).hi - (natF r).lo + 1) := by unfold rowN; rw [if_pos hch]
      have et : tk taken r = taken + 1 := by unfold tk; rw [if_pos hch]
      have hix := fun h => call_of (h := h) (pg := pg) (f := 91) rfl (by simp [intsD, canonL_map D.int (fun _ => rfl)]) (@index_run picks taken ((natF r).hi - (natF r).lo + 1) (by omega) n (by omega))
      rw [← ew] at hix
      have w1 : IntKind.i64.wrap ((natF r).hi - (natF r).lo) = (natF r).hi - (natF r).lo := wrap_i64 (by omega) (by omega)
      have w2 : IntKind.i64.wrap ((natF r).hi - (natF r).lo + 1) = (natF r).hi - (natF r).lo + 1 := wrap_i64 (by omega) (by omega)
      have w3 : IntKind.i64.wrap ((natF r).lo + rowN picks taken r) = (natF r).lo + rowN picks taken r := wrap_i64 (by omega) (by omega)
      have w4 : IntKind.i64.wrap ((taken : Int) + 1) = (taken : Int) + 1 := wrap_i64 (by omega) (by omega)
      simp only [hch] at hyo
      obtain ⟨H, hH⟩ : ∃ H, H = (((((((((h.bump 51).bump 51).set (h.next + 62) (some (Blk.cells 82 [D.val (Value.bool false), D.val (Value.int .i64 0), D.val (Value.int .i64 0), D.val (Value.slice none 0 0), D.val (Value.int .i64 0), D.val (Value.bool false), D.val (Value.bool false)]))).set (h.next + 62) (some (Blk.cells 82 [D.bool (natF r).valid, D.int (natF r).lo, D.int (natF r).hi, D.sl false (List.map D.int (natF r).layers), D.int (natF r).bed, D.bool (natF r).hides, D.bool true])))).bump 51).bump 51).bump 51).bump 51).bump 51 := ⟨_, rfl⟩
      have hHn : H.next = h.next + 357 := by rw [hH]; simp [Nat.add_assoc]
      have hHf : H.Fr := by
        rw [hH]
        repeat' first | exact hf | apply Heap.Fr.bump | apply Heap.Fr.set
        all_goals (simp <;> omega)
      have hHg : H.get (h.next + 62) = some (Blk.cells 82 [D.bool (natF r).valid, D.int (natF r).lo, D.int (natF r).hi, D.sl false (List.map D.int (natF r).layers), D.int (natF r).bed, D.bool (natF r).hides, D.bool true]) := by rw [hH]; simp
      have hHr : H.raw (h.next + 354) = none := by rw [hH]; simp [hfr]
      have hHd : Gl H d acc := hd.keep (by rw [hHn]; omega) fun k cs hk => by
        have hlt := Fr_lt hf hk
        rw [hH]
        simp [show k ≠ h.next + 62 by omega, hk]
      obtain ⟨d', H', e, hn', hf', hd', _⟩ := hHd.app Y hHr (by omega) (by omega) (by omega)
      simp [k48l0, v1, v21, v22, v23, v9, v8, hlt, hr, natD, natC, D.cells, D.one, hfr, Nat.add_assoc, hw1, hch, hix, w1, w2, w3, w4, hyo, hcells, ← hH, hHg, e]
      exact ⟨k - 1, by omega, _, _, i + 1, taken + 1, d', acc ++ Y, rfl, by omega, by simp [v1], by simp [v21, natsD], by simp [v22], by simp, by simp, by simp, hd'.keep (by simp) (fun k cs hk => by simpa using hk), by rw [List.length_append]; omega, by omega, by rw [hrd, List.append_assoc, et], (hf' hHf).bump _, by simp <;> omega⟩
    · have hch' : (natF r).choice = false := by simpa using hch
      have et : tk taken r = taken := by unfold tk; rw [if_neg hch]
      have ew : rowN picks taken r = 0 := by unfold rowN; rw [if_neg hch]
      rw [ew, Int.add_zero] at hyo
      simp only [hch'] at hyo
      obtain ⟨H, hH⟩ : ∃ H, H = (((((((h.bump 51).bump 51).set (h.next + 62) (some (Blk.cells 82 [D.val (Value.bool false), D.val (Value.int .i64 0), D.val (Value.int .i64 0), D.val (Value.slice none 0 0), D.val (Value.int .i64 0), D.val (Value.bool false), D.val (Value.bool false)]))).set (h.next + 62) (some (Blk.cells 82 [D.bool (natF r).valid, D.int (natF r).lo, D.int (natF r).hi, D.sl false (List.map D.int (natF r).layers), D.int (natF r).bed, D.bool (natF r).hides, D.bool false])))).bump 51).bump 51).bump 51 := ⟨_, rfl⟩
      have hHn : H.next = h.next + 255 := by rw [hH]; simp [Nat.add_assoc]
      have hHf : H.Fr := by
        rw [hH]
        repeat' first | exact hf | apply Heap.Fr.bump | apply Heap.Fr.set
        all_goals (simp <;> omega)
      have hHg : H.get (h.next + 62) = some (Blk.cells 82 [D.bool (natF r).valid, D.int (natF r).lo, D.int (natF r).hi, D.sl false (List.map D.int (natF r).layers), D.int (natF r).bed, D.bool (natF r).hides, D.bool false]) := by rw [hH]; simp
      have hHr : H.raw (h.next + 252) = none := by rw [hH]; simp [hfr]
      have hHd : Gl H d acc := hd.keep (by rw [hHn]; omega) fun k cs hk => by
        have hlt := Fr_lt hf hk
        rw [hH]
        simp [show k ≠ h.next + 62 by omega, hk]
      obtain ⟨d', H', e, hn', hf', hd', _⟩ := hHd.app Y hHr (by omega) (by omega) (by omega)
      simp [k48l0, v21, v22, v23, v8, hlt, hr, natD, natC, D.cells, D.one, hfr, Nat.add_assoc, hw1, hch', hyo, hcells, ← hH, hHg, e]
      exact ⟨k - 1, by omega, _, _, i + 1, taken, d', acc ++ Y, rfl, by omega, by simp [v1], by simp [v21, natsD], by simp [v22], by simp, by simp [v9], by simp, hd'.keep (by simp) (fun k cs hk => by simpa using hk), by rw [List.length_append]; omega, by omega, by rw [hrd, List.append_assoc, et], (hf' hHf).bump _, by simp <;> omega⟩
  · simp [k48l0, v22, v23, hlt]
    exact ⟨_, _, i, taken, d, acc, rfl, by omega, by simp [v1], by simp [v21, natsD], by simp [v22], by simp [v23], by simp [v9], by simp [v8], hd.keep (by simp) (fun k cs hk => by simpa using hk), hacc, htk, hrd, hf.bump _, by simp <;> omega⟩
end Go.Proofs.YthgnholbajpdgaaDoor
/- Readings of rows: the program's function; the zeros that the document's loop lays. -/
namespace Go.Proofs.YthgnholbajpdgaaDoor
open Go Go.Em
set_option maxRecDepth 100000
def readL (picks : List Int) (l : List Rw) : List Int := if (natsF l).2 = 0 then readF picks 0 l else []
theorem read_run (picks : List Int) (l : List Rw) {n : Nat} (hn : l.length + 50 ≤ n) : pureCall (rc pg n) 48 [rowsD l, intsD picks] = some (.ret (.tup [intsD (readL picks l), D.int (natsF l).2])) := by
  obtain ⟨m, rfl, e⟩ := body (pg := pg) (f := 48) (args := [rowsD l, intsD picks]) (show 0 < n by omega) rfl rfl
  rw [e]
  have hnat := fun h => call_of (h := h) (pg := pg) (f := 67) rfl (rows_canon l) (@natures_run l m (by omega))
  simp only [rowsD] at hnat
  by_cases h4 : (natsF l).2 = 0
  · rw [nats_ok h4, h4] at hnat
    simp [k48, Env.v_ini, rowsD, hnat, ev_loop]
    refine Res.endsAfter (lp_rule 30 (RDI picks l) _ (read_round picks l (len_of_ok h4) (ok_of h4)) l.length m _ (by omega) ⟨_, _, 0, 0, .val (.slice none 0 0), [], rfl, by omega, by simp [Env.v_ini], by simp [natsD], by simp, by simp, by simp, by simp, .inl ⟨rfl, rfl⟩, by simp, by omega, rfl, ?_, by simp⟩) ?_
    · repeat' first | exact Heap.Fr.empty | apply Heap.Fr.bump | apply Heap.Fr.set
    rintro x s ⟨rfl, x, h, i, taken, d, acc, rfl, hi, v1, v21, v22, v23, v9, v8, hd, hacc, htk, hrd, hf, _⟩
    obtain rfl : i = l.length := by omega
    rw [List.drop_length, readF, List.append_nil] at hrd
    have hd' : Gl (h.bump 51) d acc := hd.keep (by simp) fun k cs hk => by simpa using hk
    obtain ⟨ks, hfz⟩ := hd'.frozen 21
    simp [v8, readL, h4, hrd, hfz, intsD]
  · have h4' : ((natsF l).2 != 0) = true := by simpa using h4
    simp [k48, Env.v_ini, rowsD, hnat, h4, h4', readL, intsD]
/-- The loop that lays zeros: so many are laid. -/
def ZI (x0 : Env 104) (b : Nat) (r : Rw) (c : Int) (acc : List Int) (k : Nat) (s : St) : Prop := ∃ (x : Env 104) (h : Heap) (i : Nat) (d : D), s = ⟨x.l, h, []⟩ ∧ (i : Int) + k = (natF r).lo + c ∧ (x.v 0 = x0.v 0 ∧ x.v 1 = x0.v 1) ∧ (x.v 10 = x0.v 10 ∧ x.v 11 = x0.v 11) ∧ x.v 12 = .ptr b 0 ∧ h.get b = some (.cells 23 [D.int r.k, D.int r.n, D.int r.m]) ∧ x.v 14 = D.int c ∧ x.v 15 = D.int i ∧
  x.v 9 = d ∧ Gl h d (acc ++ List.replicate i 0) ∧ h.Fr ∧ 1 < h.next
set_option maxHeartbeats 2000000 in
theorem zero_round (x0 : Env 104) (b : Nat) (r : Rw) (c : Int) (acc : List Int) (hc : 0 ≤ (natF r).lo + c) (hc2 : (natF r).lo + c ≤ 9000) (ha : acc.length ≤ 9000000) : ∀ n, 3 ≤ n → ∀ k s, ZI x0 b r c acc k s → Res (k49l0.ev ⟨pg, 104, none⟩ (rc pg n) s) (Rnd (ZI x0 b r c acc) (fun x s => x = .exit 3 ∧ ZI x0 b r c acc 0 s) k) := by
  rintro n hn k s ⟨x, h, i, d, rfl, hik, vA, vB, v12, hb, v14, v15, v9, hd, hf, hn1⟩
  have hfr : ∀ j, h.raw (h.next + j) = none := fun j => hf _ (by omega)
  have hbl := Fr_lt hf hb
  have hleast := fun h => call_of (h := h) (pg := pg) (f := 79) rfl (row_canon r) (@least_run n (by omega) r)
  simp only [rowD] at hleast
  have w1 : IntKind.i64.wrap ((natF r).lo + c) = (natF r).lo + c := wrap_i64 (by omega) (by omega)
  have hi : (i : Int) ≤ 9000 := by omega
  have hw1 : IntKind.i64.wrap ((i : Int) + 1) = (i : Int) + 1 := wrap_i64 (by omega) (by omega)
  have neb : ∀ j, (b = h.next + j) = False := fun j => by simp; omega
  by_cases hlt : (i : Int) < (natF r).lo + c
  · obtain ⟨H, hH⟩ : ∃ H, H = ((h.bump 104).bump 104).set (h.next + 205) (some (Blk.cells 3 [D.val (.int .i64 0)])) := ⟨_, rfl⟩
    have hHn : H.next = h.next + 208 := by rw [hH]; simp [Nat.add_assoc]
    have hHf : H.Fr := by
      rw [hH]
      repeat' first | exact hf | apply Heap.Fr.bump | apply Heap.Fr.set
      all_goals (simp <;> omega)
    have hHg : H.get (h.next + 205) = some (Blk.cells 3 [D.val (.int .i64 0)]) := by rw [hH]; simp
    have hHr : H.raw (h.next + 206) = none := by rw [hH]; simp [hfr]
    have hHd : Gl H d (acc ++ List.replicate i 0) := hd.keep (by rw [hHn]; omega) fun k cs hk => by
      have hlt := Fr_lt hf hk
      rw [hH]
      simp [show k ≠ h.next + 205 by omega, hk]
    obtain ⟨d', H', e, hn', hf', hd', hbk⟩ := hHd.app [0] hHr (by omega) (by omega) (by simp; omega)
    simp only [List.map_cons, List.map_nil, List.length_cons, List.length_nil] at e
    simp [k49l0, v12, v14, v15, v9, hb, hleast, w1, hlt, hw1, hfr, Nat.add_assoc, zerosD, D.cells, D.one, ← hH, hHg, e]
    have hb' : H'.get b = some (.cells 23 [D.int r.k, D.int r.n, D.int r.m]) := hbk _ _ (by omega) (by rw [hH]; simp [show b ≠ h.next + 205 by omega, hb])
    exact ⟨k - 1, by omega, _, _, i + 1, d', rfl, by omega, ⟨by simp [vA], by simp [vA]⟩, ⟨by simp [vB], by simp [vB]⟩, by simp [v12], by simp [hb'], by simp [v14], by simp, by simp, by rw [List.replicate_succ', ← List.append_assoc]; exact hd'.keep (by simp) (fun k cs hk => by simpa using hk), (hf' hHf).bump _, by simp <;> omega⟩
  · simp [k49l0, v12, v14, v15, hb, hleast, w1, hlt]
    exact ⟨_, _, i, d, rfl, by omega, ⟨by simp [vA], by simp [vA]⟩, ⟨by simp [vB], by simp [vB]⟩, by simp [v12], by simp [hb], by simp [v14], by simp [v15], by simp [v9], hd.keep (by simp) (fun k cs hk => by simpa using hk), hf.bump _, by simp <;> omega⟩
end Go.Proofs.YthgnholbajpdgaaDoor
