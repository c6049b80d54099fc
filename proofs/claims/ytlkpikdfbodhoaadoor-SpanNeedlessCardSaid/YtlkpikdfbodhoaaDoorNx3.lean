/- Needless, by the document: its rounds. -/
import Derived.Test.YtlkpikdfbodhoaaDoorNx2
import Derived.Test.YtlkpikdfbodhoaaDoorSh1
import Derived.Test.YtlkpikdfbodhoaaDoorWo1
namespace Go.Proofs.YtlkpikdfbodhoaaDoor
open Go Go.Em Go.Em.Net
set_option maxRecDepth 100000
theorem ndU_all : ∀ (l : List Clm) (i j : Nat), i < j → uF (ndU i) j l = l
  | [], _, _, _ => rfl
  | c :: l, i, j, h => by
    have : ndU i j = true := by unfold ndU; simp; omega
    rw [uF, if_pos this, ndU_all l i (j + 1) (by omega)]
theorem ndU_at : ∀ (l : List Clm) (i j : Nat), uF (ndU (i + j)) j l = l.take i ++ l.drop (i + 1)
  | [], _, _ => by simp [uF]
  | c :: l, 0, j => by
    have : ¬ ndU (0 + j) j = true := by unfold ndU; simp
    rw [uF, if_neg this, ndU_all l _ _ (by omega)]
    simp
  | c :: l, i + 1, j => by
    have : ndU (i + 1 + j) j = true := by unfold ndU; simp
    have ih := ndU_at l i (j + 1)
    rw [show i + (j + 1) = i + 1 + j by omega] at ih
    rw [uF, if_pos this, ih]
    rfl
theorem ndV_is (l : List Clm) (i : Nat) : ndV l i = l.take i ++ l.drop (i + 1) := by
  have := ndU_at l i 0
  simpa [ndV] using this
def k41c : Cd := .seq (.region [⟨none, some 37, .inl (.ld true 2 (.s 4))⟩,
 ⟨none, some 38, .inl (.ld true 2 (.s 8))⟩,
 ⟨none, some 39, .inr (.fn 23 [(.s 37), (.s 38)])⟩])
 (.cond (.s 39) (.region [⟨none, some 40, .inl (.mv (.s 6))⟩,
 ⟨none, some 41, .inl (.mv (.s 7))⟩,
 ⟨none, some 42, .inl (.bs 3 1 1 [(.int .i64 0)] [(0, (.s 41))])⟩,
 ⟨none, some 43, .inl (.app 3 1 8 (.s 40) (.s 42))⟩,
 ⟨none, some 6, .inl (.mv (.s 43))⟩])
 (.skip))
def k41d : Cd := .draw [⟨⟨none, some 24, .inl (.bs 42 5 0 [(.int .i64 0), (.int .i64 0), (.int .i64 0), (.int .i64 0), (.int .i64 0)] [])⟩, (some [.fr 24]), [.fr 8], 0, false⟩,
 ⟨⟨none, some 25, .inl (.mv (.s 0))⟩, some [], [], 0, false⟩,
 ⟨⟨none, some 26, .inl (.mv (.s 7))⟩, some [], [], 0, false⟩,
 ⟨⟨none, some 27, .inl (.slc 5 (.s 25) none (some (.s 26)) none)⟩, some [], [.fr 24, .fr 8], 6, false⟩,
 ⟨⟨none, some 28, .inl (.app 42 5 40 (.s 24) (.s 27))⟩, (some [.fr 28, .fr 24]), [.fr 8], 15, false⟩,
 ⟨⟨none, some 29, .inl (.mv (.s 0))⟩, some [], [], 0, false⟩,
 ⟨⟨none, some 30, .inl (.mv (.s 7))⟩, some [], [], 0, false⟩,
 ⟨⟨none, some 31, .inl (.bin .add (.s 30) (.c (.int .i64 1)))⟩, some [], [], 64, false⟩,
 ⟨⟨none, some 32, .inl (.slc 5 (.s 29) (some (.s 31)) none none)⟩, some [], [.fr 24, .fr 28, .fr 8], 224, false⟩,
 ⟨⟨none, some 33, .inl (.app 42 5 40 (.s 28) (.s 32))⟩, (some [.fr 33, .fr 28, .fr 24]), [.fr 8], 511, false⟩,
 ⟨⟨none, some 34, .inr (.fn 53 [(.s 33)])⟩, (some [.fr 33, .fr 28, .fr 24]), [.fr 8], 1023, false⟩,
 ⟨⟨none, some 23, .inl (.mv (.s 34))⟩, some [], [], 2047, false⟩,
 ⟨⟨none, some 35, .inl (.ex (.s 23) 0)⟩, some [], [], 4095, false⟩,
 ⟨⟨none, some 36, .inl (.ex (.s 23) 1)⟩, some [], [], 4095, false⟩,
 ⟨⟨none, some 8, .inl (.alloc 40 [(.slice none 0 0), (.slice none 0 0)])⟩, (some [.fr 8]), [.fr 24, .fr 28, .fr 33], 0, false⟩,
 ⟨⟨none, none, .inl (.st 2 (.s 8) (.s 35))⟩, (some [.fr 8]), [], 24575, false⟩,
 ⟨⟨none, some 9, .inl (.mv (.s 36))⟩, some [], [], 65535, false⟩]
theorem k41l0_eq : k41l0 = .seq (.region [⟨none, some 21, .inl (.bin .lss (.s 20) (.s 19))⟩])
 (.seq (.cond (.s 21) (.skip)
 (.exit 0))
 (.seq (.block 1 (.seq (.region [⟨none, some 22, .inl (.mv (.s 20))⟩,
 ⟨none, some 7, .inl (.mv (.s 22))⟩])
 (.seq k41d k41c)))
 (.region [⟨none, some 44, .inl (.bin .add (.s 20) (.c (.int .i64 1)))⟩,
 ⟨none, some 20, .inl (.mv (.s 44))⟩]))) := rfl
theorem rclo_of (l : List Clm) (h0 : chkF l = 0) (hb : badF l = false) {n : Nat} (hn : 3000 ≤ n) : pureCall (rc pg n) 53 [clsD l] = some (.ret (.tup [nD (marksF l) (encM (cloF l)), D.bool true])) := by
  by_cases hl : l = []
  · subst hl; exact rclo_nil hn
  · obtain ⟨B, e1, e2⟩ := rclo_run l h0 hl hn
    rw [e1, hb, e2 hb]; rfl
theorem apG {t k m : Nat} {H : Heap} {cs : List D} (hg : H.get k = some (.cells 42 [])) (hm : 0 < m) (hc : cs.all D.one = true) (hb : m ≤ 400) : apK t 42 5 40 H (.slr k 0 0 5 (some 0)) (some (m, cs)) = (H.alloc t (.cells 42 cs)).map fun h => (.slr t 0 m 5 none, h) := by
  rw [apK_some _ hc (by omega), appD_slr, hg]
  unfold appS
  have q1 : m ≠ 0 := by omega
  have q2 : m * 40 ≤ room := by unfold room; omega
  have q3 : m ≤ maxLen := by unfold maxLen; omega
  simp [q1, q2, q3]
theorem apG2 {t k m m0 : Nat} {H : Heap} {c0 cs : List D} (hg : H.get k = some (.cells 42 c0)) (hl : c0.length = m0 * 5) (hm : 0 < m) (hc : cs.all D.one = true) (hb : m0 + m ≤ 400) : apK t 42 5 40 H (.slr k 0 m0 5 none) (some (m, cs)) = ((H.set k none).alloc t (.cells 42 (c0 ++ cs))).map fun h => (.slr t 0 (m0 + m) 5 none, h) := by
  rw [apK_some _ hc (by omega), appD_slr, hg, appS_none hl (by omega) (by unfold room; omega) (by unfold maxLen; omega)]
theorem frz_cls {H : Heap} {k m : Nat} {c : Option Nat} {L : List Clm} (hg : H.get k = some (.cells 42 (L.flatMap clC))) (hm : m = L.length) : Go.Em.frz H 24 (.slr k 0 m 5 c) = some (clsD L, [k]) := by
  show Go.Em.frz H (23 + 1) _ = _
  rw [frz_slr, hg, frzS_cells]
  have hl := cells_len L
  have e1 : (L.flatMap clC).take (m * 5) = L.flatMap clC := List.take_of_length_le (by omega)
  rw [if_pos ⟨by omega, by omega⟩, List.drop_zero, e1, each_canon H 22 _ (cells_canon L), Option.map_some, cells_chunk L m hm]
  rfl
def NCo (l : List Clm) (b4 i : Nat) (x0 : Env 46) (h0 : Heap) (z : Ex) (s : St) : Prop := z = .normal ∧ ∃ (x : Env 46) (h : Heap), s = ⟨x.l, h, []⟩ ∧ x.v 0 = x0.v 0 ∧ x.v 4 = x0.v 4 ∧ x.v 6 = x0.v 6 ∧ x.v 7 = x0.v 7 ∧ x.v 8 = .ptr (h0.next + 8) 0 ∧ x.v 19 = x0.v 19 ∧ x.v 20 = x0.v 20 ∧ h.Fr ∧ h.next = h0.next + 46 ∧
  (∀ q, q < h0.next → h.get q = h0.get q) ∧ h.get (h0.next + 8) = some (.cells 40 [intsD (marksF (ndV l i)), rowsD (marksF (ndV l i)).length (encM (cloF (ndV l i)))])
set_option maxHeartbeats 8000000 in
theorem ncd_run (l : List Clm) (h0 : chkF l = 0) (hb : badF l = false) {n : Nat} (hn : 3000 ≤ n) (x : Env 46) (h : Heap) (i b4 : Nat) (hi : i < l.length) (v0 : x.v 0 = clsD l) (v7 : x.v 7 = D.int i) (hf : h.Fr) : Res (k41d.ev ⟨pg, 46, none⟩ (rc pg n) ⟨x.l, h, []⟩) (NCo l b4 i x h) := by
  obtain ⟨hl1, hl2, hl3⟩ := chk_ok h0
  have hfr : ∀ j, h.raw (h.next + j) = none := fun j => hf _ (by omega)
  have w1 : IntKind.i64.wrap ((i : Int) + 1) = (i : Int) + 1 := wrap_i64 (by omega) (by omega)
  have hz : zerosD [.int .i64 0, .int .i64 0, .int .i64 0, .int .i64 0, .int .i64 0] 5 0 = [] := rfl
  have hV := (used_run h0 hb (ndU i) (f := n) (by omega)).1
  have hcV : chkF (ndV l i) = 0 := chk_uf h0 (uF_len _ _ _) (fun c hc => uF_mem hc)
  have c53 := rclo_of (ndV l i) hcV hV hn
  have s53 : pg.sh 53 = false := rfl
  simp only [clsD] at v0
  have hH : headOk 5 (l.map clD) = true := by cases l <;> rfl
  have p1 : (i : Int) ≤ l.length := by omega
  have p2 : (i : Int) + 1 ≤ l.length := by omega
  have p3 : (0 : Int) ≤ (i : Int) + 1 := by omega
  have p4 : ((i : Int) + 1).toNat = i + 1 := by omega
  have ht : ((l.map clD).take i) = (l.take i).map clD := List.map_take.symm
  have hd : ((l.map clD).drop (i + 1)) = (l.drop (i + 1)).map clD := List.map_drop.symm
  have hall : ∀ L : List Clm, (L.map clD).all (fun e => e.cells.length == 5) = true := fun L => by
    rw [List.all_eq_true]; intro e he
    obtain ⟨c, _, rfl⟩ := List.mem_map.1 he
    rfl
  have hfl := cls_cells
  have ht2 : List.take (l.length - (i + 1)) (List.drop (i + 1) (List.map clD l)) = List.drop (i + 1) (List.map clD l) := List.take_of_length_le (by simp)
  have hone := cls_one
  have hsrc1 : ∀ H, src H 5 (.sl false (List.take i (l.map clD))) = some (i, (l.take i).flatMap clC) := fun H => by
    rw [ht, src_sl, if_pos (hall _), hfl]
    simp; omega
  have hsrc2 : ∀ H, src H 5 (.sl false (List.drop (i + 1) (l.map clD))) = some (l.length - (i + 1), (l.drop (i + 1)).flatMap clC) := fun H => by
    rw [hd, src_sl, if_pos (hall _), hfl]
    simp
  rw [ndV_is] at c53
  obtain ⟨G, hG⟩ : ∃ G, G = nD (marksF (l.take i ++ l.drop (i + 1))) (encM (cloF (l.take i ++ l.drop (i + 1)))) := ⟨_, rfl⟩
  rw [← hG] at c53
  have hGc : G.cells = [intsD (marksF (l.take i ++ l.drop (i + 1))), rowsD (marksF (l.take i ++ l.drop (i + 1))).length (encM (cloF (l.take i ++ l.drop (i + 1))))] := by rw [hG]; rfl
  simp only [intsD, rowsD] at hGc
  have o3 : ∀ (z : Bool) (l : List D), D.one (.sl z l) = true := fun _ _ => rfl
  rcases Nat.eq_zero_or_pos i with hi0 | hi0
  · have hA : l.take i = [] := by rw [hi0]; rfl
    have hsA : ∀ H, src H 5 (.sl false (List.take i (l.map clD))) = some (0, []) := fun H => by rw [hsrc1, hA, hi0]; rfl
    have z0 := fun (t : Nat) (H : Heap) (k : Nat) => apK_zero_slr (t := t) (et := 42) (sz := 5) (bytes := 40) (h := H) k 0 0 5 (some 0)
    by_cases hB : l.length - (i + 1) = 0
    · have hB0 : l.drop (i + 1) = [] := List.drop_eq_nil_of_le (by omega)
      have hsB : ∀ H, src H 5 (.sl false (List.drop (i + 1) (l.map clD))) = some (0, []) := fun H => by rw [hsrc2, hB0, hB]; rfl
      have f1 := fun (H : Heap) (c : Option Nat) (hg : H.get (h.next + 24) = some (.cells 42 ([]))) => frz_cls (H := H) (k := h.next + 24) (c := c) (m := 0) (L := l.take i ++ l.drop (i + 1)) (by rw [hg, hA, hB0]; rfl) (by simp; omega)
      have mk : ∀ e, mayKill h.next e [.fr 33, .fr 28, .fr 24] [.fr 8] false [h.next + 24] = true := fun e => by simp [mayKill]
      have hz2 := fun e H d => dZ2_ret (h := H) (d := d) (mk e)
      cases hfl : (D.tup [G, D.bool true]).flat with
      | true =>
        have hth : ∀ H : Heap, thaw [h.next + 24] (.tup [G, D.bool true]) H = H := fun H => by unfold thaw; rw [hfl]; rfl
        simp [-src_sl, -frz_slr, k41d, v0, v7, w1, hz, hfr, hH, p1, p2, p3, p4, ht2, hsA, hsB, z0, f1, dcore_y, s53, dZ_some c53, hz2, hth, hGc, D.one]
        refine ⟨rfl, _, _, rfl, by simp, by simp, by simp, by simp, by simp, by simp, by simp, ?_, by simp, ?_, ?_⟩
        · repeat' first | exact hf | apply Heap.Fr.bump | apply Heap.Fr.set
          all_goals first | omega | (simp; done) | (simp; omega)
        · intro q hq
          have m1 : ∀ j, (q = h.next + j) = False := fun j => by simp; omega
          simp [m1]
        · rw [ndV_is]; simp [intsD, rowsD]
      | false =>
        have hth : ∀ H : Heap, thaw [h.next + 24] (.tup [G, D.bool true]) H = H.set (h.next + 24) none := fun H => by unfold thaw; rw [hfl]; rfl
        simp [-src_sl, -frz_slr, k41d, v0, v7, w1, hz, hfr, hH, p1, p2, p3, p4, ht2, hsA, hsB, z0, f1, dcore_y, s53, dZ_some c53, hz2, hth, hGc, D.one]
        refine ⟨rfl, _, _, rfl, by simp, by simp, by simp, by simp, by simp, by simp, by simp, ?_, by simp, ?_, ?_⟩
        · repeat' first | exact hf | apply Heap.Fr.bump | apply Heap.Fr.set
          all_goals first | omega | (simp; done) | (simp; omega)
        · intro q hq
          have m1 : ∀ j, (q = h.next + j) = False := fun j => by simp; omega
          simp [m1]
        · rw [ndV_is]; simp [intsD, rowsD]
    · have a1 := fun (t : Nat) (H : Heap) (hg : H.get (h.next + 24) = some (.cells 42 [])) => apG (t := t) hg (show 0 < l.length - (i + 1) by omega) (hone (l.drop (i + 1))) (by omega)
      have f1 := fun (H : Heap) (c : Option Nat) (hg : H.get (h.next + 33) = some (.cells 42 ((l.drop (i + 1)).flatMap clC))) => frz_cls (H := H) (k := h.next + 33) (c := c) (m := l.length - (i + 1)) (L := l.take i ++ l.drop (i + 1)) (by rw [hg, hA]; rfl) (by simp; omega)
      have mk : ∀ e, mayKill h.next e [.fr 33, .fr 28, .fr 24] [.fr 8] false [h.next + 33] = true := fun e => by simp [mayKill]
      have hz2 := fun e H d => dZ2_ret (h := H) (d := d) (mk e)
      cases hfl : (D.tup [G, D.bool true]).flat with
      | true =>
        have hth : ∀ H : Heap, thaw [h.next + 33] (.tup [G, D.bool true]) H = H := fun H => by unfold thaw; rw [hfl]; rfl
        simp [-src_sl, -frz_slr, k41d, v0, v7, w1, hz, hfr, hH, p1, p2, p3, p4, ht2, hsA, hsrc2, z0, a1, f1, dcore_y, s53, dZ_some c53, hz2, hth, hGc, D.one]
        refine ⟨rfl, _, _, rfl, by simp, by simp, by simp, by simp, by simp, by simp, by simp, ?_, by simp, ?_, ?_⟩
        · repeat' first | exact hf | apply Heap.Fr.bump | apply Heap.Fr.set
          all_goals first | omega | (simp; done) | (simp; omega)
        · intro q hq
          have m1 : ∀ j, (q = h.next + j) = False := fun j => by simp; omega
          simp [m1]
        · rw [ndV_is]; simp [intsD, rowsD]
      | false =>
        have hth : ∀ H : Heap, thaw [h.next + 33] (.tup [G, D.bool true]) H = H.set (h.next + 33) none := fun H => by unfold thaw; rw [hfl]; rfl
        simp [-src_sl, -frz_slr, k41d, v0, v7, w1, hz, hfr, hH, p1, p2, p3, p4, ht2, hsA, hsrc2, z0, a1, f1, dcore_y, s53, dZ_some c53, hz2, hth, hGc, D.one]
        refine ⟨rfl, _, _, rfl, by simp, by simp, by simp, by simp, by simp, by simp, by simp, ?_, by simp, ?_, ?_⟩
        · repeat' first | exact hf | apply Heap.Fr.bump | apply Heap.Fr.set
          all_goals first | omega | (simp; done) | (simp; omega)
        · intro q hq
          have m1 : ∀ j, (q = h.next + j) = False := fun j => by simp; omega
          simp [m1]
        · rw [ndV_is]; simp [intsD, rowsD]
  · have a1 := fun (t : Nat) (H : Heap) (hg : H.get (h.next + 24) = some (.cells 42 [])) => apG (t := t) hg hi0 (hone (l.take i)) (by omega)
    by_cases hB : l.length - (i + 1) = 0
    · have hB0 : l.drop (i + 1) = [] := List.drop_eq_nil_of_le (by omega)
      have hsB : ∀ H, src H 5 (.sl false (List.drop (i + 1) (l.map clD))) = some (0, []) := fun H => by rw [hsrc2, hB0, hB]; rfl
      have z0 := fun (t : Nat) (H : Heap) (k : Nat) => apK_zero_slr (t := t) (et := 42) (sz := 5) (bytes := 40) (h := H) k 0 i 5 none
      have f1 := fun (H : Heap) (c : Option Nat) (hg : H.get (h.next + 28) = some (.cells 42 ((l.take i).flatMap clC))) => frz_cls (H := H) (k := h.next + 28) (c := c) (m := i) (L := l.take i ++ l.drop (i + 1)) (by rw [hg, hB0, List.append_nil]) (by simp; omega)
      have mk : ∀ e, mayKill h.next e [.fr 33, .fr 28, .fr 24] [.fr 8] false [h.next + 28] = true := fun e => by simp [mayKill]
      have hz2 := fun e H d => dZ2_ret (h := H) (d := d) (mk e)
      cases hfl : (D.tup [G, D.bool true]).flat with
      | true =>
        have hth : ∀ H : Heap, thaw [h.next + 28] (.tup [G, D.bool true]) H = H := fun H => by unfold thaw; rw [hfl]; rfl
        simp [-src_sl, -frz_slr, k41d, v0, v7, w1, hz, hfr, hH, p1, p2, p3, p4, ht2, hsrc1, hsB, z0, a1, f1, dcore_y, s53, dZ_some c53, hz2, hth, hGc, D.one]
        refine ⟨rfl, _, _, rfl, by simp, by simp, by simp, by simp, by simp, by simp, by simp, ?_, by simp, ?_, ?_⟩
        · repeat' first | exact hf | apply Heap.Fr.bump | apply Heap.Fr.set
          all_goals first | omega | (simp; done) | (simp; omega)
        · intro q hq
          have m1 : ∀ j, (q = h.next + j) = False := fun j => by simp; omega
          simp [m1]
        · rw [ndV_is]; simp [intsD, rowsD]
      | false =>
        have hth : ∀ H : Heap, thaw [h.next + 28] (.tup [G, D.bool true]) H = H.set (h.next + 28) none := fun H => by unfold thaw; rw [hfl]; rfl
        simp [-src_sl, -frz_slr, k41d, v0, v7, w1, hz, hfr, hH, p1, p2, p3, p4, ht2, hsrc1, hsB, z0, a1, f1, dcore_y, s53, dZ_some c53, hz2, hth, hGc, D.one]
        refine ⟨rfl, _, _, rfl, by simp, by simp, by simp, by simp, by simp, by simp, by simp, ?_, by simp, ?_, ?_⟩
        · repeat' first | exact hf | apply Heap.Fr.bump | apply Heap.Fr.set
          all_goals first | omega | (simp; done) | (simp; omega)
        · intro q hq
          have m1 : ∀ j, (q = h.next + j) = False := fun j => by simp; omega
          simp [m1]
        · rw [ndV_is]; simp [intsD, rowsD]
    · have a2 := fun (t : Nat) (H : Heap) (hg : H.get (h.next + 28) = some (.cells 42 ((l.take i).flatMap clC))) => apG2 (t := t) (m := l.length - (i + 1)) (m0 := i) hg (by rw [cells_len]; simp; omega) (by omega) (hone (l.drop (i + 1))) (by omega)
      have f1 := fun (H : Heap) (c : Option Nat) (hg : H.get (h.next + 33) = some (.cells 42 ((l.take i).flatMap clC ++ (l.drop (i + 1)).flatMap clC))) => frz_cls (H := H) (k := h.next + 33) (c := c) (m := i + (l.length - (i + 1))) (L := l.take i ++ l.drop (i + 1)) (by rw [hg, List.flatMap_append]) (by simp; omega)
      have mk : ∀ e, mayKill h.next e [.fr 33, .fr 28, .fr 24] [.fr 8] false [h.next + 33] = true := fun e => by simp [mayKill]
      have hz2 := fun e H d => dZ2_ret (h := H) (d := d) (mk e)
      cases hfl : (D.tup [G, D.bool true]).flat with
      | true =>
        have hth : ∀ H : Heap, thaw [h.next + 33] (.tup [G, D.bool true]) H = H := fun H => by unfold thaw; rw [hfl]; rfl
        simp [-src_sl, -frz_slr, k41d, v0, v7, w1, hz, hfr, hH, p1, p2, p3, p4, ht2, hsrc1, hsrc2, a1, a2, f1, dcore_y, s53, dZ_some c53, hz2, hth, hGc, D.one]
        refine ⟨rfl, _, _, rfl, by simp, by simp, by simp, by simp, by simp, by simp, by simp, ?_, by simp, ?_, ?_⟩
        · repeat' first | exact hf | apply Heap.Fr.bump | apply Heap.Fr.set
          all_goals first | omega | (simp; done) | (simp; omega)
        · intro q hq
          have m1 : ∀ j, (q = h.next + j) = False := fun j => by simp; omega
          simp [m1]
        · rw [ndV_is]; simp [intsD, rowsD]
      | false =>
        have hth : ∀ H : Heap, thaw [h.next + 33] (.tup [G, D.bool true]) H = H.set (h.next + 33) none := fun H => by unfold thaw; rw [hfl]; rfl
        simp [-src_sl, -frz_slr, k41d, v0, v7, w1, hz, hfr, hH, p1, p2, p3, p4, ht2, hsrc1, hsrc2, a1, a2, f1, dcore_y, s53, dZ_some c53, hz2, hth, hGc, D.one]
        refine ⟨rfl, _, _, rfl, by simp, by simp, by simp, by simp, by simp, by simp, by simp, ?_, by simp, ?_, ?_⟩
        · repeat' first | exact hf | apply Heap.Fr.bump | apply Heap.Fr.set
          all_goals first | omega | (simp; done) | (simp; omega)
        · intro q hq
          have m1 : ∀ j, (q = h.next + j) = False := fun j => by simp; omega
          simp [m1]
        · rw [ndV_is]; simp [intsD, rowsD]
end Go.Proofs.YtlkpikdfbodhoaaDoor
