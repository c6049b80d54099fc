/- One times a number, by package math/bits. -/
import Derived.Test.YtgbkdjlekfjkfaaGreatDoorKp1
import Derived.Test.YtgbkdjlekfjkfaaGreatDoorEmNet
import Derived.Test.YtgbkdjlekfjkfaaGreatDoorWo1
import Derived.Test.YtgbkdjlekfjkfaaGreatDoorKp1
namespace Go.Proofs.YtgbkdjlekfjkfaaGreatDoor
open Go Go.Em
set_option maxRecDepth 100000
noncomputable def mulOk (m n : Nat) : Bool := match pureCall (rc pg (m + 3)) 172 [.val (.int .u64 1), .val (.int .u64 n)] with
  | some (.ret (.tup [.val (.int .u64 a), .val (.int .u64 b)])) => a == 0 && b == n
  | _ => false
theorem mul_tab (m : Nat) : (List.range 67).all (mulOk m) = true := by kernel_rfl
theorem mul_run {n : Nat} (hn : n ≤ 66) {k : Nat} (hk : 3 ≤ k) : pureCall (rc pg k) 172 [.val (.int .u64 1), .val (.int .u64 n)] = some (.ret (.tup [.val (.int .u64 0), .val (.int .u64 n)])) := by
  obtain ⟨m, rfl⟩ := more_of hk
  have h := List.all_eq_true.1 (mul_tab m) n (List.mem_range.2 (by omega))
  unfold mulOk at h
  split at h
  · rename_i a b e
    simp only [Bool.and_eq_true, beq_iff_eq] at h
    rw [e, h.1, h.2]
  · cases h
end Go.Proofs.YtgbkdjlekfjkfaaGreatDoor
/- A number, so many times, by package slices. -/
namespace Go.Proofs.YtgbkdjlekfjkfaaGreatDoor
open Go Go.Em
set_option maxRecDepth 100000
def RpI (h0 : Heap) (v : Int) (n b : Nat) (k : Nat) (s : St) : Prop := ∃ (x : Env 48) (h : Heap) (m : Nat) (cs : List D), s = ⟨x.l, h, []⟩ ∧ n - m ≤ k ∧ 0 < m ∧ m ≤ n ∧ x.v 7 = .slr b 0 n 1 (some n) ∧ x.v 8 = D.int m ∧ h.get b = some (.cells 3 cs) ∧ cs.length = n ∧ (∀ j, j < m → cs[j]? = some (D.int v)) ∧ b < h.next ∧ h.Fr ∧ h0.next ≤ b ∧ Un h0 h
set_option maxHeartbeats 2000000 in
theorem rep_round (h0 : Heap) (v : Int) (n b : Nat) (hn : n ≤ 66) : ∀ f, 0 ≤ f → ∀ k s, RpI h0 v n b k s → Res (k141l0.ev ⟨pg, 48, none⟩ (rc pg f) s) (Rnd (RpI h0 v n b) (fun x s => x = .exit 0 ∧ RpI h0 v n b 0 s) k) := by
  rintro f hf k s ⟨x, h, m, cs, rfl, hk, hm0, hmn, v7, v8, hg, hcs, hv, hb, hfr, hb0, hu1, hu2⟩
  by_cases hm : m < n
  · have w1 : IntKind.i64.wrap ((m : Int) + (min m (n - m) : Nat)) = ((m + min m (n - m) : Nat) : Int) := by rw [wrap_i64 (by omega) (by omega)]; omega
    have hin : (m : Int) < n := by omega
    have s1 : sliceR b 0 1 (some n) (m : Int) (n : Int) none (upTo (some n) n 0 1 n) = some (.slr b m (n - m) 1 (some (n - m))) := by
      unfold sliceR
      have h1 : ¬ ((m : Int) = n ∧ 0 < (m : Int)) := by omega
      have h2 : (decide (0 ≤ (m : Int)) && decide ((m : Int) ≤ n) && upTo (some n) n 0 1 n n && mxOk n (upTo (some n) n 0 1 n) none) = true := by
        unfold upTo mxOk; simp; omega
      rw [if_pos h2, if_neg h1]
      simp [mxCap]
    have s2 : sliceR b 0 1 (some n) 0 (m : Int) none (upTo (some n) n 0 1 n) = some (.slr b 0 m 1 (some n)) := by
      unfold sliceR
      have h1 : ¬ ((0 : Int) = m ∧ (0 : Int) < 0) := by omega
      have h2 : (decide ((0 : Int) ≤ 0) && decide ((0 : Int) ≤ m) && upTo (some n) n 0 1 n m && mxOk m (upTo (some n) n 0 1 n) none) = true := by
        unfold upTo mxOk; simp; omega
      rw [if_pos h2, if_neg h1]
      simp [mxCap]
    have hone : ∀ y ∈ List.take m cs, D.one y = true := by
      intro y hy
      obtain ⟨j, hj, e⟩ := List.getElem_of_mem hy
      have hjm : j < m := by simp at hj; omega
      rw [List.getElem_take] at e
      have := hv j hjm
      rw [List.getElem?_eq_getElem (by omega), e] at this
      rw [Option.some.inj this]; rfl
    obtain ⟨q, hq⟩ : ∃ q, q = min m (n - m) := ⟨_, rfl⟩
    have hq1 : 0 < q ∧ q ≤ m ∧ m + q ≤ n := by omega
    rw [← hq] at w1
    have hone' : (∀ y, y ∈ List.take m cs → D.one y = true) = True := eq_true hone
    simp [k141l0, v7, v8, hin, hg, w1, noStr, hcs, s1, s2, hmn, hone', ← hq]
    refine ⟨k - 1, by omega, _, _, m + q, _, rfl, by omega, by omega, by omega, by simp [v7], by simp, by simp; rfl, ?_, fun j hj => ?_, by simp; omega, ?_, hb0, by simp; omega, fun j hj => ?_⟩
    · simp; omega
    · rw [List.getElem?_append]
      split
      · rw [List.getElem?_take]; split
        · exact hv j (by assumption)
        · rename_i h1 h2; simp at h1; omega
      · rename_i h1
        have h1' : m ≤ j := by simp at h1; omega
        have hl : (List.take m cs).length = m := by simp; omega
        rw [hl, List.getElem?_append_left (by simp; omega), List.getElem?_take, if_pos (by omega), List.getElem?_take, if_pos (by omega)]
        exact hv _ (by omega)
    · repeat' first | exact hfr | apply Heap.Fr.bump | apply Heap.Fr.set
      all_goals (simp <;> omega)
    · have := hu2 j hj
      simp [show j ≠ b by omega, this]
  · have hm' : ¬ (m : Int) < n := by omega
    simp [k141l0, v7, v8, hm']
    exact ⟨_, _, m, cs, rfl, by omega, hm0, hmn, by simp [v7], by simp [v8], by simp [hg], hcs, hv, by simp; omega, hfr.bump _, hb0, by simp; omega, fun j hj => by simpa using hu2 j hj⟩
theorem rep_sh6 (v : Int) {n : Nat} (hn : n ≤ 66) (hn0 : 0 < n) {h : Heap} (hf : h.Fr) {f : Nat} (hfl : 80 ≤ f) : ∃ b h', (rc pg f).fn 141 [.sl false [D.int v], D.int n] h = some (.ret (.slr b 0 n 1 (some n)), h') ∧ h'.get b = some (.cells 3 ((List.replicate n v).map D.int)) ∧ b < h'.next ∧ h'.Fr ∧ h.next ≤ b ∧ Un h h' := by
  obtain ⟨m, rfl, e⟩ := fn_body (pg := pg) (f := 141) (args := [.sl false [D.int v], D.int n]) (h := h) (show 0 < f by omega) rfl rfl
  rw [e]
  have hfr : ∀ j, h.raw (h.next + j) = none := fun j => hf _ (by omega)
  have c87 := fun h => call_of (h := h) (pg := pg) (f := 172) (args := [.val (.int .u64 1), .val (.int .u64 n)]) rfl rfl (@mul_run n hn m (by omega))
  have w1 : IntKind.u64.wrap (n : Int) = (n : Int) := wrap_u64 (by omega) (by omega)
  have w2 : IntKind.i64.wrap (n : Int) = (n : Int) := wrap_i64 (by omega) (by omega)
  have w0 : IntKind.u64.wrap 1 = 1 := by decide
  have n0 : ¬ ((n : Int) < 0) := by omega
  have n1 : ¬ ((9223372036854775807 : Int) < n) := by omega
  have hm1 : min 1 n = 1 := by omega
  have hroom : (8 : Int) * n ≤ (room : Int) := by unfold room; omega
  have hz : zerosD [.int .i64 0] 1 n = List.replicate n (D.int 0) := by
    unfold zerosD
    refine List.eq_replicate_iff.2 ⟨by simp, fun b hb => ?_⟩
    obtain ⟨i, _, rfl⟩ := List.mem_map.1 hb
    simp [Nat.mod_one]
  simp [k141, Env.v_ini, c87, hm1, hroom, hz, D.cells, D.one, w0, w1, w2, n0, n1, hfr, Nat.add_assoc, noStr, ev_loop]
  refine Res.tailG (F := fun b => D.slr b 0 n 1 (some n)) (C := fun b h' => h'.get b = some (.cells 3 (List.replicate n (D.int v))) ∧ b < h'.next ∧ h'.Fr ∧ h.next ≤ b ∧ Un h h') (lp_rule 0 (RpI h v n (h.next + 222)) _ (rep_round h v n _ hn) n m _ (by omega) ⟨_, _, 1, D.int v :: List.replicate (n - 1) (D.int 0), rfl, by omega, by omega, by omega, by simp, by simp, by simp, by simp; omega, fun j hj => ?_, by simp <;> omega, ?_, by omega, by simp; omega, fun q hq => by simp [show q ≠ h.next + 222 by omega]⟩) ?_
  · obtain rfl : j = 0 := by omega
    rfl
  · repeat' first | exact hf | apply Heap.Fr.bump | apply Heap.Fr.set
    all_goals (simp <;> omega)
  · rintro x s ⟨rfl, x, h', m', cs, rfl, hk, hm0, hmn, v7, v8, hg, hcs, hv, hb, hf, hb0, hu1, hu2⟩
    have hcs' : cs = List.replicate n (D.int v) := by
      refine List.eq_replicate_iff.2 ⟨hcs, fun d hd => ?_⟩
      obtain ⟨j, hj, e⟩ := List.getElem_of_mem hd
      have := hv j (by omega)
      rw [List.getElem?_eq_getElem hj, e] at this
      exact Option.some.inj this
    rw [hcs'] at hg
    refine ⟨h.next + 222, h'.bump 48, by simp [v7], by simpa using hg, by simp; omega, hf.bump _, hb0, by simp; omega, fun q hq => by simpa using hu2 q hq⟩
theorem rep_sh (v : Int) {n : Nat} (hn : n ≤ 64) (hn0 : 0 < n) {h : Heap} (hf : h.Fr) {f : Nat} (hfl : 80 ≤ f) : ∃ b h', (rc pg f).fn 141 [.sl false [D.int v], D.int n] h = some (.ret (.slr b 0 n 1 (some n)), h') ∧ h'.get b = some (.cells 3 ((List.replicate n v).map D.int)) ∧ b < h'.next ∧ h'.Fr ∧ h.next ≤ b ∧ Un h h' := rep_sh6 v (by omega) hn0 hf hfl
end Go.Proofs.YtgbkdjlekfjkfaaGreatDoor
/- Years that are lowered round by round, by the program. -/
namespace Go.Proofs.YtgbkdjlekfjkfaaGreatDoor
open Go Go.Em Go.Em.Net
set_option maxRecDepth 100000
structure Mo where
  cl : Int
  bk : Bool
  fr : Nat
  to_ : Nat
  mo : Int
def moC (m : Mo) : List D := [D.int m.cl, D.bool m.bk, D.int m.fr, D.int m.to_, D.int m.mo]
def moD (m : Mo) : D := .agg (moC m)
def mosD (l : List Mo) : D := .sl false (l.map moD)
def grD (M : List Int) (l : List Mo) : D := .agg [intsD M, mosD l]
def mvs (l : List Mo) : List Mv := l.map fun m => (m.fr, m.to_, m.mo)
def its (mv : List Mv) : Nat → (Nat → Int) → Nat → Int
  | 0, y => y
  | r + 1, y => its mv r (mv.foldl relax y)
theorem its_snoc (mv : List Mv) : ∀ (r : Nat) (y : Nat → Int), its mv (r + 1) y = mv.foldl relax (its mv r y)
  | 0, _ => rfl
  | r + 1, y => its_snoc mv r (mv.foldl relax y)
theorem all_snoc (mv : List Mv) : ∀ (r : Nat) (y : Nat → Int), allChg mv (r + 1) y = (allChg mv r y && chg mv (its mv r y))
  | 0, y => by simp [allChg, its]
  | r + 1, y => by
    have := all_snoc mv r (mv.foldl relax y)
    unfold allChg
    rw [this, its, Bool.and_assoc]
theorem all_more (mv : List Mv) (r : Nat) (y : Nat → Int) (h : allChg mv r y = false) : ∀ k, allChg mv (r + k) y = false
  | 0 => h
  | k + 1 => by rw [← Nat.add_assoc, all_snoc, all_more mv r y h k]; rfl
theorem chg_snoc (m : Mv) : ∀ (l : List Mv) (y : Nat → Int), chg (l ++ [m]) y = (chg l y || decide ((l.foldl relax y) m.1 + m.2.2 < (l.foldl relax y) m.2.1))
  | [], y => by
    show (decide (y m.1 + m.2.2 < y m.2.1) || chg [] (relax y m)) = (chg [] y || decide (y m.1 + m.2.2 < y m.2.1))
    unfold chg
    rw [Bool.or_false, Bool.false_or]
  | a :: l, y => by
    rw [List.cons_append, chg, chg_snoc m l (relax y a), chg, Bool.or_assoc]; rfl
def Bd (c : Int) (y : Nat → Int) : Prop := ∀ v, -c ≤ y v ∧ y v ≤ 0
theorem Bd.relax {c : Int} {y : Nat → Int} (h : Bd c y) {m : Mv} (hm : -100000 ≤ m.2.2) : Bd (c + 100000) (relax y m) := by
  intro v
  refine ⟨?_, Int.le_trans (relax_le y m v) (h v).2⟩
  unfold Net.relax
  split
  · show -(c + 100000) ≤ (if v = m.2.1 then y m.1 + m.2.2 else y v)
    split
    · have := (h m.1).1; omega
    · have := (h v).1; omega
  · have := (h v).1; omega
def yCs (n : Nat) (y : Nat → Int) : List D := (List.range n).map fun v => D.int (y v)
theorem yCs_set {n : Nat} {y : Nat → Int} {j : Nat} (a : Int) : (yCs n y).set j (D.int a) = yCs n (fun v => if v = j then a else y v) := by
  apply List.ext_getElem?
  intro i
  unfold yCs
  rw [List.getElem?_set]
  by_cases hi : i < n
  · by_cases hij : j = i
    · subst hij; simp [hi]
    · have : ¬ i = j := fun e => hij e.symm
      simp [hij, hi, this]
  · by_cases hij : j = i
    · subst hij; simp [hi]
    · simp [hij, hi]
theorem yCs_len (n : Nat) (y : Nat → Int) : (yCs n y).length = n := by simp [yCs]
theorem yCs_get {n : Nat} {y : Nat → Int} {j : Nat} (hj : j < n) : (yCs n y)[j]? = some (D.int (y j)) := by simp [yCs, hj]
def Kl (gb yb bb n : Nat) (x : Env 63) : Prop := x.v 1 = .ptr gb 0 ∧ x.v 2 = .slr bb 0 n 1 (some n) ∧ x.v 4 = .slr yb 0 n 1 (some n) ∧ x.v 19 = D.int n
def Hl (M : List Int) (l : List Mo) (gb yb bb n : Nat) (y : Nat → Int) (h : Heap) : Prop := h.get gb = some (.cells 65 [intsD M, mosD l]) ∧ h.get yb = some (.cells 3 (yCs n y)) ∧ (∃ bl : List Int, bl.length = n ∧ h.get bb = some (.cells 3 (bl.map D.int))) ∧ gb < h.next ∧ yb < h.next ∧ bb < h.next ∧ h.Fr
def LowI (M : List Int) (l : List Mo) (gb yb bb n r s0 : Nat) (y0 : Nat → Int) (k : Nat) (s : St) : Prop := ∃ (x : Env 63) (h : Heap) (i : Nat) (late : Int), s = ⟨x.l, h, []⟩ ∧ i + k = l.length ∧ Kl gb yb bb n x ∧ x.v 20 = D.int r ∧ x.v 23 = mosD l ∧ x.v 24 = D.int l.length ∧ x.v 25 = D.int i ∧ x.v 3 = D.int late ∧ (late = -1 ↔ chg (mvs (l.take i)) y0 = false) ∧ Bd (100000 * (s0 + i : Nat)) ((mvs (l.take i)).foldl relax y0) ∧ Hl M l gb yb bb n ((mvs (l.take i)).foldl relax y0) h
set_option maxHeartbeats 8000000 in
theorem low_round (M : List Int) (l : List Mo) (gb yb bb n r s0 : Nat) (y0 : Nat → Int) (hd1 : gb ≠ yb) (hd2 : gb ≠ bb) (hd3 : yb ≠ bb) (hs0 : s0 ≤ 60000) (hl : l.length ≤ 800) (hin : ∀ m ∈ l, m.fr < n ∧ m.to_ < n ∧ -100000 ≤ m.mo ∧ m.mo ≤ 100000) :
    ∀ f, 0 ≤ f → ∀ k s, LowI M l gb yb bb n r s0 y0 k s → Res (k101l0.ev ⟨pg, 63, none⟩ (rc pg f) s) (Rnd (LowI M l gb yb bb n r s0 y0) (fun x s => x = .exit 2 ∧ LowI M l gb yb bb n r s0 y0 0 s) k) := by
  rintro f hf k s ⟨x, h, i, late, rfl, hik, ⟨v1, v2, v4, v19⟩, v20, v23, v24, v25, v3, hlate, hbd, hg, hy, ⟨bl, hbl, hb⟩, gn, yn, bn, hfr'⟩
  simp only [mosD] at v23
  by_cases hi : i < l.length
  · obtain ⟨c, hc⟩ : ∃ c, l[i] = c := ⟨_, rfl⟩
    obtain ⟨hf1, hf2, hf3, hf4⟩ := hin c (by rw [← hc]; exact List.getElem_mem hi)
    obtain ⟨y, hyd⟩ : ∃ y, y = (mvs (l.take i)).foldl relax y0 := ⟨_, rfl⟩
    rw [← hyd] at hbd hy
    have htk : mvs (l.take (i + 1)) = mvs (l.take i) ++ [(c.fr, c.to_, c.mo)] := by
      unfold mvs
      rw [List.take_add_one, List.getElem?_eq_getElem hi, hc]; simp
    have hy1 : (mvs (l.take (i + 1))).foldl relax y0 = relax y (c.fr, c.to_, c.mo) := by rw [htk, List.foldl_append, ← hyd]; rfl
    have hch : chg (mvs (l.take (i + 1))) y0 = (chg (mvs (l.take i)) y0 || decide (y c.fr + c.mo < y c.to_)) := by rw [htk, chg_snoc, ← hyd]
    have hbd1 := hbd.relax (m := (c.fr, c.to_, c.mo)) hf3
    have w1 : IntKind.i64.wrap ((i : Int) + 1) = (i : Int) + 1 := wrap_i64 (by omega) (by omega)
    have w2 : IntKind.i64.wrap (y c.fr + c.mo) = y c.fr + c.mo := by
      have := hbd c.fr
      exact wrap_i64 (by omega) (by omega)
    have hfr : ∀ j, h.raw (h.next + j) = none := fun j => hfr' _ (by omega)
    have n1 : ∀ j, (gb = h.next + j) = False := fun j => by simp; omega
    have n2 : ∀ j, (yb = h.next + j) = False := fun j => by simp; omega
    have n3 : ∀ j, (bb = h.next + j) = False := fun j => by simp; omega
    have n4 : (bb = yb) = False := by simp; omega
    have n5 : (gb = yb) = False := by simp [hd1]
    have n6 : (gb = bb) = False := by simp [hd2]
    have m2 : ∀ j, (h.next + j = yb) = False := fun j => by simp; omega
    have m3 : ∀ j, (h.next + j = bb) = False := fun j => by simp; omega
    have m4 : (yb = bb) = False := by simp [hd3]
    have hyl := yCs_len n y
    have hy2 : ∀ h' : c.fr < (yCs n y).length, (yCs n y)[c.fr]'h' = D.int (y c.fr) := fun h' => Option.some.inj (by rw [← List.getElem?_eq_getElem h']; exact yCs_get hf1)
    have hy3 : ∀ h' : c.to_ < (yCs n y).length, (yCs n y)[c.to_]'h' = D.int (y c.to_) := fun h' => Option.some.inj (by rw [← List.getElem?_eq_getElem h']; exact yCs_get hf2)
    have hle1 : c.fr + 1 ≤ n := hf1
    have hle2 : c.to_ + 1 ≤ n := hf2
    have hst : (yCs n y).take c.to_ ++ D.int (y c.fr + c.mo) :: (yCs n y).drop (c.to_ + 1) = yCs n (fun v => if v = c.to_ then y c.fr + c.mo else y v) := by
      rw [← yCs_set, List.set_eq_take_append_cons_drop, if_pos (by rw [hyl]; exact hf2)]
    by_cases hlt : y c.fr + c.mo < y c.to_
    · simp [k101l0, v1, v2, v4, v20, v23, v24, v25, v3, hi, hc, moD, moC, D.cells, D.one, hfr, Nat.add_assoc, hg, hy, hb, n1, n2, n3, n4, n5, n6, m2, m3, m4, hf1, hf2, hle1, hle2, hyl, hy2, hy3, hst, hbl, w1, w2, hlt]
      have hrel : relax y (c.fr, c.to_, c.mo) = fun v => if v = c.to_ then y c.fr + c.mo else y v := by unfold relax; rw [if_pos hlt]
      refine ⟨k - 1, by omega, _, _, i + 1, (c.to_ : Int), rfl, by omega, ⟨by simp [v1], by simp [v2], by simp [v4], by simp [v19]⟩, by simp [v20], by simp [v23, mosD], by simp [v24], by simp, by simp, ?_, ?_, ?_⟩
      · rw [hch, decide_eq_true hlt]
        simp
      · rw [hy1]
        have : (100000 * ((s0 + (i + 1) : Nat) : Int)) = 100000 * ((s0 + i : Nat) : Int) + 100000 := by omega
        rw [this]; exact hbd1
      · rw [hy1, hrel]
        refine ⟨by simp [n1, n5, n6, hg], by simp [n2, m4], ⟨bl.set c.to_ i, by simp [hbl], ?_⟩, by simp; omega, by simp; omega, by simp; omega, ?_⟩
        · rw [List.set_eq_take_append_cons_drop, if_pos (by omega)]
          simp
        · repeat' first | exact hfr' | apply Heap.Fr.bump | apply Heap.Fr.set
          all_goals (simp <;> omega)
    · have hrel : relax y (c.fr, c.to_, c.mo) = y := by unfold relax; rw [if_neg hlt]
      simp [k101l0, v1, v2, v4, v20, v23, v24, v25, v3, hi, hc, moD, moC, D.cells, D.one, hfr, Nat.add_assoc, hg, hy, hb, n1, n2, n3, n4, n5, n6, m2, m3, m4, hf1, hf2, hle1, hle2, hyl, hy2, hy3, hst, hbl, w1, w2, hlt]
      refine ⟨k - 1, by omega, _, _, i + 1, late, rfl, by omega, ⟨by simp [v1], by simp [v2], by simp [v4], by simp [v19]⟩, by simp [v20], by simp [v23, mosD], by simp [v24], by simp, by simp [v3], ?_, ?_, ?_⟩
      · rw [hch, decide_eq_false hlt, Bool.or_false]
        exact hlate
      · rw [hy1, hrel]
        intro v
        have := hbd v
        omega
      · rw [hy1, hrel]
        refine ⟨by simp [n1, hg], by simp [n2, hy], ⟨bl, hbl, by simp [n3, hb]⟩, by simp; omega, by simp; omega, by simp; omega, ?_⟩
        repeat' first | exact hfr' | apply Heap.Fr.bump | apply Heap.Fr.set
        all_goals (simp <;> omega)
  · simp [k101l0, v24, v25, hi]
    refine ⟨_, _, i, late, rfl, by omega, ⟨by simp [v1], by simp [v2], by simp [v4], by simp [v19]⟩, by simp [v20], by simp [v23, mosD], by simp [v24], by simp [v25], by simp [v3], hlate, hbd, by simp [hg], by simp [hy], ⟨bl, hbl, by simp [hb]⟩, by simp; omega, by simp; omega, by simp; omega, hfr'.bump _⟩
end Go.Proofs.YtgbkdjlekfjkfaaGreatDoor
/- Years that are lowered round by round, by the program: all rounds; whether claims contradict. -/
namespace Go.Proofs.YtgbkdjlekfjkfaaGreatDoor
open Go Go.Em Go.Em.Net
set_option maxRecDepth 100000
def z0 : Nat → Int := fun _ => 0
def LowO (M : List Int) (l : List Mo) (gb yb bb n : Nat) (k : Nat) (s : St) : Prop := ∃ (x : Env 63) (h : Heap) (r : Nat) (late : Int), s = ⟨x.l, h, []⟩ ∧ r + k = n ∧ Kl gb yb bb n x ∧ x.v 20 = D.int r ∧ x.v 3 = D.int late ∧ allChg (mvs l) r z0 = true ∧ (late = -1 ↔ r = 0) ∧ Bd (100000 * (r * l.length : Nat)) (its (mvs l) r z0) ∧ Hl M l gb yb bb n (its (mvs l) r z0) h
def LowQ (M : List Int) (l : List Mo) (gb yb bb n : Nat) (x : Ex) (s : St) : Prop := x = .exit 0 ∧ ∃ (x : Env 63) (h : Heap) (late : Int) (y : Nat → Int), s = ⟨x.l, h, []⟩ ∧ Kl gb yb bb n x ∧ x.v 3 = D.int late ∧ (late = -1 ↔ ¬ (0 < n ∧ allChg (mvs l) n z0 = true)) ∧ Hl M l gb yb bb n y h
def LowP (M : List Int) (l : List Mo) (gb yb bb n r : Nat) (x : Ex) (s : St) : Prop := (x = .normal ∧ chg (mvs l) (its (mvs l) r z0) = true ∨ x = .exit 0 ∧ chg (mvs l) (its (mvs l) r z0) = false) ∧ ∃ (x : Env 63) (h : Heap) (late : Int), s = ⟨x.l, h, []⟩ ∧ Kl gb yb bb n x ∧ x.v 20 = D.int r ∧ x.v 3 = D.int late ∧ (late = -1 ↔ chg (mvs l) (its (mvs l) r z0) = false) ∧ Bd (100000 * (r * l.length + l.length : Nat)) ((mvs l).foldl relax (its (mvs l) r z0)) ∧ Hl M l gb yb bb n ((mvs l).foldl relax (its (mvs l) r z0)) h
set_option maxHeartbeats 8000000 in
theorem low_rounds (M : List Int) (l : List Mo) (gb yb bb n : Nat) (hd1 : gb ≠ yb) (hd2 : gb ≠ bb) (hd3 : yb ≠ bb) (hn : n ≤ 64) (hl : l.length ≤ 800) (hin : ∀ m ∈ l, m.fr < n ∧ m.to_ < n ∧ -100000 ≤ m.mo ∧ m.mo ≤ 100000) :
    ∀ f, 802 ≤ f → ∀ k s, LowO M l gb yb bb n k s → Res (k101l1.ev ⟨pg, 63, none⟩ (rc pg f) s) (Rnd (LowO M l gb yb bb n) (LowQ M l gb yb bb n) k) := by
  rintro f hf k s ⟨x, h, r, late, rfl, hrk, ⟨v1, v2, v4, v19⟩, v20, v3, hall, hlate, hbd, hg, hy, ⟨bl, hbl, hb⟩, gn, yn, bn, hfr'⟩
  have hrl : r * l.length ≤ 64 * 800 := Nat.mul_le_mul (by omega) hl
  by_cases hr : r < n
  · have w1 : IntKind.i64.wrap ((r : Int) + 1) = (r : Int) + 1 := wrap_i64 (by omega) (by omega)
    have hfr : ∀ j, h.raw (h.next + j) = none := fun j => hfr' _ (by omega)
    have hm1 : IntKind.i64.wrap (-1) = -1 := by decide
    simp [k101l1, v1, v2, v4, v19, v20, v3, hr, hg, mosD, D.cells, D.one, ev_loop]
    have mt : mvs (l.take 0) = [] := rfl
    refine Res.after (P := LowP M l gb yb bb n r) (Res.after (P := fun x s => x = .exit 2 ∧ LowI M l gb yb bb n r (r * l.length) (its (mvs l) r z0) 0 s) (lp_rule 0 (LowI M l gb yb bb n r (r * l.length) (its (mvs l) r z0)) _ (low_round M l gb yb bb n r (r * l.length) (its (mvs l) r z0) hd1 hd2 hd3 (by omega) hl hin) l.length f _ (by omega)
      ⟨_, _, 0, -1, rfl, by omega, ⟨by simp [v1], by simp [v2], by simp [v4], by simp [v19]⟩, by simp [v20], by simp [mosD], by simp, by simp, by simp, by rw [mt]; simp [chg], by rw [mt]; simpa using hbd, ?_⟩) ?_) ?_
    · rw [mt]
      refine ⟨by simp [hg], by simp [hy], ⟨bl, hbl, by simp [hb]⟩, by simp; omega, by simp; omega, by simp; omega, ?_⟩
      repeat' first | exact hfr' | apply Heap.Fr.bump | apply Heap.Fr.set
    · rintro x' s' ⟨rfl, x, h, i, late, rfl, hi, ⟨v1, v2, v4, v19⟩, v20, v23, v24, v25, v3, hlate, hbd, hg, hy, ⟨bl, hbl, hb⟩, gn, yn, bn, hfr'⟩
      have hil : i = l.length := by omega
      subst hil
      rw [List.take_length] at hlate hbd hy
      have hH : ∀ m, Hl M l gb yb bb n ((mvs l).foldl relax (its (mvs l) r z0)) (h.bump m) := fun m => ⟨by simp [hg], by simp [hy], ⟨bl, hbl, by simp [hb]⟩, by simp; omega, by simp; omega, by simp; omega, hfr'.bump _⟩
      by_cases hl1 : late = -1
      · simp [v3, hl1]
        exact ⟨.inr ⟨rfl, hlate.1 hl1⟩, _, _, late, rfl, ⟨by simp [v1], by simp [v2], by simp [v4], by simp [v19]⟩, by simp [v20], by simp [v3], hlate, hbd, hH _⟩
      · have hc : chg (mvs l) (its (mvs l) r z0) = true := by
          cases hc : chg (mvs l) (its (mvs l) r z0) with
          | true => rfl
          | false => exact absurd (hlate.2 hc) hl1
        have hl2 : (late == -1) = false := by simp [hl1]
        simp [-beq_eq_false_iff_ne, v3, hl2]
        exact ⟨.inl ⟨rfl, hc⟩, _, _, late, rfl, ⟨by simp [v1], by simp [v2], by simp [v4], by simp [v19]⟩, by simp [v20], by simp [v3], hlate, hbd, hH _⟩
    · rintro x' s' ⟨hx, x, h, late, rfl, ⟨v1, v2, v4, v19⟩, v20, v3, hlate, hbd, hg, hy, ⟨bl, hbl, hb⟩, gn, yn, bn, hfr'⟩
      have hsn := all_snoc (mvs l) r z0
      rw [hall, Bool.true_and] at hsn
      rcases hx with ⟨rfl, hc⟩ | ⟨rfl, hc⟩
      · have hl1 : late ≠ -1 := fun e => by rw [hlate.1 e] at hc; cases hc
        rw [hc] at hsn
        simp [v20, w1]
        refine ⟨k - 1, by omega, _, _, r + 1, late, rfl, by omega, ⟨by simp [v1], by simp [v2], by simp [v4], by simp [v19]⟩, by simp, by simp [v3], hsn, ⟨fun e => absurd e hl1, fun e => absurd e (by omega)⟩, ?_, ?_⟩
        · rw [its_snoc, Nat.succ_mul]; exact hbd
        · rw [its_snoc]
          exact ⟨by simp [hg], by simp [hy], ⟨bl, hbl, by simp [hb]⟩, by simp; omega, by simp; omega, by simp; omega, hfr'.bump _⟩
      · rw [hc] at hsn
        have hno := all_more (mvs l) (r + 1) z0 hsn (n - (r + 1))
        rw [show r + 1 + (n - (r + 1)) = n by omega] at hno
        simp
        exact ⟨rfl, _, _, late, _, rfl, ⟨v1, v2, v4, v19⟩, v3, ⟨fun _ => (by rw [hno]; simp), fun _ => hlate.2 hc⟩, hg, hy, ⟨bl, hbl, hb⟩, gn, yn, bn, hfr'⟩
  · have hr' : r = n := by omega
    subst hr'
    simp [k101l1, v19, v20]
    refine ⟨rfl, _, _, late, _, rfl, ⟨by simp [v1], by simp [v2], by simp [v4], by simp [v19]⟩, by simp [v3], ?_, by simp [hg], by simp [hy]; rfl, ⟨bl, hbl, by simp [hb]⟩, by simp; omega, by simp; omega, by simp; omega, hfr'.bump _⟩
    rw [hlate, hall]
    simp
end Go.Proofs.YtgbkdjlekfjkfaaGreatDoor
/- Whether claims contradict each other, by the program. -/
namespace Go.Proofs.YtgbkdjlekfjkfaaGreatDoor
open Go Go.Em Go.Em.Net
set_option maxRecDepth 100000
theorem Res.endsEx {o : Option (Ex × St)} {id : Nat} {k : St → Option (Ex × St)} {R : Rc} {rs : List (ResultVar × Bool × Nat)} {P : Ex → St → Prop} {C : Out → Prop} (h : Res o P)
    (hk : ∀ x s, P x s → ∃ out, endK R rs (andThen (blockK id (some (x, s))) k) = some out ∧ C out) : ∃ out, endK R rs (andThen (blockK id o) k) = some out ∧ C out := by
  obtain ⟨x, s, rfl, p⟩ := h; exact hk x s p
theorem low_nil (m : Nat) : pureCall (rc pg (m + 10)) 101 [.agg [.sl false [], .sl false []]] = some (.ret (.tup [.sl false [], D.int (-1)])) := by kernel_rfl
theorem chunk_one : ∀ (n : Nat) (l : List D), l.length = n → chunk 1 n l = l
  | 0, [], _ => rfl
  | n + 1, a :: l, h => by
    unfold chunk
    simp [chunk_one n l (by simpa using h)]
theorem mo_canonL (l : List Mo) : D.canonL (l.map moD) = true := canonL_map _ (fun m => by simp [moD, moC]) l
theorem gr_canon (M : List Int) (l : List Mo) : D.canonL [grD M l] = true := by simp [grD, intsD, mosD, ints_canonL, mo_canonL]
def LowOut (M : List Int) (l : List Mo) (o : Out) : Prop := ∃ (bl : List Int) (late : Int), o = .ret (.tup [intsD bl, D.int late]) ∧ (late = -1 ↔ ¬ (0 < M.length ∧ allChg (mvs l) M.length z0 = true))
set_option maxHeartbeats 4000000 in
theorem low_run (M : List Int) (l : List Mo) (hn : M.length ≤ 64) (hl : l.length ≤ 800) (hin : ∀ m ∈ l, m.fr < M.length ∧ m.to_ < M.length ∧ -100000 ≤ m.mo ∧ m.mo ≤ 100000) {f : Nat} (hf : 1000 ≤ f) : ∃ o, pureCall (rc pg f) 101 [grD M l] = some o ∧ LowOut M l o := by
  by_cases h0 : M.length = 0
  · have hM : M = [] := List.eq_nil_of_length_eq_zero h0
    have hL : l = [] := by
      cases l with
      | nil => rfl
      | cons a _ => have := (hin a List.mem_cons_self).1; omega
    subst hM; subst hL
    obtain ⟨m, rfl⟩ := more_of (show 10 ≤ f by omega)
    exact ⟨_, low_nil m, [], -1, rfl, by simp⟩
  · obtain ⟨m, rfl, e⟩ := body (pg := pg) (f := 101) (args := [grD M l]) (show 0 < f by omega) rfl rfl
    rw [e]
    have s82 : pg.sh 141 = true := rfl
    have hroom : (8 : Int) * M.length ≤ (room : Int) := by unfold room; omega
    have hz : zerosD [.int .i64 0] 1 M.length = List.replicate M.length (D.int 0) := by
      unfold zerosD
      refine List.eq_replicate_iff.2 ⟨by simp, fun b hb => ?_⟩
      obtain ⟨i, _, rfl⟩ := List.mem_map.1 hb
      simp [Nat.mod_one]
    have hz1 : zerosD [.int .i64 0] 1 1 = [D.int 0] := rfl
    have hm1 : IntKind.i64.wrap (-1) = -1 := by decide
    obtain ⟨H, hH⟩ : ∃ H, H = ((((((Heap.empty.bump 63).set 1 (some (.cells 65 [intsD M, mosD l]))).bump 63).set 74 (some (.cells 3 (List.replicate M.length (D.int 0))))).bump 63).set 138 (some (.cells 3 [D.int (-1)]))).set 138 none := ⟨_, rfl⟩
    have hHf : H.Fr := by
      rw [hH]
      repeat' first | exact Heap.Fr.empty | apply Heap.Fr.bump | apply Heap.Fr.set
      all_goals first | omega | (simp <;> omega)
    have hHn : H.next = 189 := by rw [hH]; simp
    have hH1 : H.get 1 = some (.cells 65 [intsD M, mosD l]) := by rw [hH]; simp
    have hyz : List.replicate M.length (D.int 0) = yCs M.length z0 := by
      unfold yCs
      symm
      refine List.eq_replicate_iff.2 ⟨by simp, fun b hb => ?_⟩
      obtain ⟨i, _, rfl⟩ := List.mem_map.1 hb
      rfl
    have hH74 : H.get 74 = some (.cells 3 (yCs M.length z0)) := by rw [hH, ← hyz]; simp
    obtain ⟨b, h', e1, g1, b1, f1, b0, u1, u2⟩ := rep_sh (-1) hn (by omega) hHf (f := m) (by omega)
    have c82 := call_sh (pg := pg) s82 e1
    rw [hHn] at b0 u1 u2
    have hg1 : h'.get 1 = some (.cells 65 [intsD M, mosD l]) := by unfold Heap.get at hH1 ⊢; rw [u2 1 (by omega)]; exact hH1
    have hg74 : h'.get 74 = some (.cells 3 (yCs M.length z0)) := by unfold Heap.get at hH74 ⊢; rw [u2 74 (by omega)]; exact hH74
    simp only [intsD, mosD] at hH hg1 hH1
    simp [k101, Env.v_ini, grD, intsD, mosD, D.cells, D.one, hroom, hz, hz1, chunk, ← hH, hH1, c82, hg1, ev_loop]
    refine Res.endsEx (lp_rule 802 (LowO M l 1 74 b M.length) _ (low_rounds M l 1 74 b M.length (by omega) (by omega) (by omega) hn hl hin) M.length m _ (by omega) ⟨_, _, 0, -1, rfl, by omega, ⟨by simp, by simp, by simp, by simp⟩, by simp, by simp, rfl, by simp, ?_, ?_⟩) ?_
    · intro v; simp [its, z0]
    · refine ⟨by simp [hg1, intsD, mosD], by simp [hg74, its], ⟨List.replicate M.length (-1), by simp, by simp [g1]⟩, by simp <;> omega, by simp <;> omega, by simp <;> omega, ?_⟩
      repeat' first | exact f1 | apply Heap.Fr.bump | apply Heap.Fr.set
    · rintro x s ⟨rfl, x, h, late, y, rfl, ⟨v1, v2, v4, v19⟩, v3, hlate, hg, hy, ⟨bl, hbl, hb⟩, gn, yn, bn, hfr'⟩
      refine ⟨.ret (.tup [intsD bl, D.int late]), ?_, bl, late, rfl, hlate⟩
      have htk : List.take M.length (bl.map D.int) = bl.map D.int := List.take_of_length_le (by simp; omega)
      have hch : chunk 1 M.length (bl.map D.int) = bl.map D.int := chunk_one _ _ (by simp [hbl])
      simp [v2, v3, hb, hbl, intsD, htk, hch]
end Go.Proofs.YtgbkdjlekfjkfaaGreatDoor
/- Whether moves contradict each other; the moves along claims. -/
namespace Go.Proofs.YtgbkdjlekfjkfaaGreatDoor
open Go Go.Em Go.Em.Net
set_option maxRecDepth 100000
def conF (M : List Int) (l : List Mo) : Bool := decide (0 < M.length) && allChg (mvs l) M.length z0
theorem con_run (M : List Int) (l : List Mo) (hn : M.length ≤ 64) (hl : l.length ≤ 800) (hin : ∀ m ∈ l, m.fr < M.length ∧ m.to_ < M.length ∧ -100000 ≤ m.mo ∧ m.mo ≤ 100000) {f : Nat} (hf : 1001 ≤ f) : pureCall (rc pg f) 109 [grD M l] = some (.ret (D.bool (conF M l))) := by
  obtain ⟨m, rfl, e⟩ := body (pg := pg) (f := 109) (args := [grD M l]) (show 0 < f by omega) rfl rfl
  rw [e]
  obtain ⟨o, ho, bl, late, rfl, hlate⟩ := low_run M l hn hl hin (f := m) (by omega)
  have c83 := fun h => call_of (h := h) (pg := pg) (f := 101) rfl (gr_canon M l) ho
  have hres : (late != -1) = conF M l := by
    unfold conF
    cases h1 : (decide (0 < M.length) && allChg (mvs l) M.length z0) with
    | true =>
      rw [Bool.and_eq_true, decide_eq_true_eq] at h1
      simpa [bne_iff_ne] using fun e => hlate.1 e h1
    | false =>
      have : late = -1 := hlate.2 fun h2 => by rw [decide_eq_true h2.1, h2.2] at h1; cases h1
      simp [this]
  simp only [grD] at c83
  have hex : ((grD M l).cells) = [intsD M, mosD l] := rfl
  simp only [intsD, mosD] at c83
  simp [-bne_iff_ne, k109, Env.v_ini, grD, intsD, mosD, D.cells, D.one, c83, hres]
def placeF (M : List Int) (v : Int) : Nat := M.idxOf v
def movF (M : List Int) (i : Nat) (c : Clm) : List Mo := [⟨i, false, placeF M c.a, placeF M c.b, c.hi⟩, ⟨i, true, placeF M c.b, placeF M c.a, -c.lo⟩]
def movsF (M : List Int) : Nat → List Clm → List Mo
  | _, [] => []
  | i, c :: l => movF M i c ++ movsF M (i + 1) l
theorem movs_snoc (M : List Int) (c : Clm) : ∀ (l : List Clm) (i : Nat), movsF M i (l ++ [c]) = movsF M i l ++ movF M (i + l.length) c
  | [], i => by simp [movsF]
  | a :: l, i => by
    rw [List.cons_append, movsF, movs_snoc M c l (i + 1), movsF, List.append_assoc, List.length_cons]
    congr 3; omega
theorem movs_len (M : List Int) : ∀ (l : List Clm) (i : Nat), (movsF M i l).length = 2 * l.length
  | [], _ => rfl
  | a :: l, i => by rw [movsF, List.length_append, movs_len M l (i + 1)]; simp [movF]; omega
end Go.Proofs.YtgbkdjlekfjkfaaGreatDoor
/- The graph of claims: the claims that may be used (all of them). -/
namespace Go.Proofs.YtgbkdjlekfjkfaaGreatDoor
open Go Go.Em Go.Em.Net
set_option maxRecDepth 100000
theorem every_run (i : Int) {n : Nat} (hn : 1 ≤ n) : pureCall (rc pg n) 40 [D.int i] = some (.ret (D.bool true)) := by
  obtain ⟨m, rfl, e⟩ := body (pg := pg) (f := 40) (args := [D.int i]) (show 0 < n by omega) rfl rfl
  rw [e]
  simp [k40, Env.v_ini]
def eachD : D := .fn (.func 40) [] []
def nil2 : List D := [.val (.slice none 0 0), .val (.slice none 0 0)]
def G0 (l : List Clm) (k : Nat) (s : St) : Prop := ∃ (x : Env 81) (h : Heap) (i ub rb : Nat), s = ⟨x.l, h, []⟩ ∧ i + k = l.length ∧ x.v 0 = clsD l ∧ x.v 1 = eachD ∧ x.v 16 = clsD l ∧ x.v 17 = D.int l.length ∧ x.v 18 = D.int i ∧ x.v 5 = .slr ub 0 i 5 (some l.length) ∧ x.v 4 = .ptr rb 0 ∧ h.get ub = some (.cells 70 ((l.take i).flatMap clC)) ∧ h.get rb = some (.cells 65 nil2) ∧ ub < h.next ∧ rb < h.next ∧ ub ≠ rb ∧ h.Fr
set_option maxHeartbeats 4000000 in
theorem used_round (l : List Clm) (hl : l.length ≤ 400) : ∀ n, 1 ≤ n → ∀ k s, G0 l k s → Res (k39l0.ev ⟨pg, 81, none⟩ (rc pg n) s) (Rnd (G0 l) (fun x s => x = .exit 0 ∧ G0 l 0 s) k) := by
  rintro n hn k s ⟨x, h, i, ub, rb, rfl, hik, v0, v1, v16, v17, v18, v5, v4, hu, hr, un, rn, hne, hf⟩
  simp only [clsD] at v16
  simp only [eachD] at v1
  by_cases hi : i < l.length
  · obtain ⟨c, hc⟩ : ∃ c, l[i] = c := ⟨_, rfl⟩
    have w1 : IntKind.i64.wrap ((i : Int) + 1) = (i : Int) + 1 := wrap_i64 (by omega) (by omega)
    have hfr : ∀ j, h.raw (h.next + j) = none := fun j => hf _ (by omega)
    have n1 : ∀ j, (ub = h.next + j) = False := fun j => by simp; omega
    have n2 : ∀ j, (rb = h.next + j) = False := fun j => by simp; omega
    have n3 : (rb = ub) = False := by simp; omega
    have n4 : ∀ j, (h.next + j = ub) = False := fun j => by simp; omega
    have c47 := fun h => call_of (h := h) (pg := pg) (f := 40) (args := [D.int i]) rfl (by simp) (@every_run i n hn)
    have hsn : (l.take (i + 1)).flatMap clC = (l.take i).flatMap clC ++ clC c := by rw [List.take_add_one, List.getElem?_eq_getElem hi, hc]; simp
    have hz5 : zerosD [.int .i64 0, .int .i64 0, .int .i64 0, .int .i64 0, .int .i64 0] 5 1 = [D.int 0, D.int 0, D.int 0, D.int 0, D.int 0] := rfl
    have happ : ∀ (t : Nat) (h : Heap), appS t 70 5 40 h 1 (clC c) ub 0 i 5 (some l.length) (some (.cells 70 ((l.take i).flatMap clC))) = some (.slr ub 0 (i + 1) 5 (some l.length), h.set ub (some (.cells 70 ((l.take i).flatMap clC ++ clC c)))) := fun t h =>
      appS_cap (by rw [length_flatMap (sz := 5) clC (fun _ => rfl)]; simp; omega) (by omega) (by unfold room; omega) (by unfold maxLen; omega)
    simp only [clC] at happ
    simp [k39l0, v0, v1, v16, v17, v18, v5, v4, hi, hc, clD, clC, happ, hz5, D.cells, D.one, hfr, Nat.add_assoc, n1, n2, n3, n4, hu, hr, c47, w1, apK_some]
    refine ⟨k - 1, by omega, _, _, i + 1, ub, rb, rfl, by omega, by simp [v0], by simp [v1, eachD], by simp [v16, clsD], by simp [v17], by simp, by simp, by simp [v4], ?_, by simp [n2, n3, hr], by simp; omega, by simp; omega, hne, ?_⟩
    · rw [hsn]; simp [clC]
    · repeat' first | exact hf | apply Heap.Fr.bump | apply Heap.Fr.set
      all_goals (simp <;> omega)
  · simp [k39l0, v17, v18, hi]
    exact ⟨_, _, i, ub, rb, rfl, by omega, by simp [v0], by simp [v1, eachD], by simp [v16, clsD], by simp [v17], by simp [v18], by simp [v5], by simp [v4], by simp [hu], by simp [hr], by simp; omega, by simp; omega, hne, hf.bump _⟩
end Go.Proofs.YtgbkdjlekfjkfaaGreatDoor
/- The graph of claims: the moves. -/
namespace Go.Proofs.YtgbkdjlekfjkfaaGreatDoor
open Go Go.Em Go.Em.Net
set_option maxRecDepth 100000
theorem place_at {M : List Int} {v : Int} (hv : v ∈ M) : ∃ h : placeF M v < M.length, M[placeF M v] = v :=
  ⟨List.idxOf_lt_length_iff.2 hv, List.getElem_idxOf _⟩
def G1 (M : List Int) (l : List Clm) (k : Nat) (s : St) : Prop := ∃ (x : Env 81) (h : Heap) (i gb mb rb : Nat), s = ⟨x.l, h, []⟩ ∧ i + k = l.length ∧ x.v 1 = eachD ∧ x.v 38 = clsD l ∧ x.v 39 = D.int l.length ∧ x.v 40 = D.int i ∧ x.v 8 = .ptr gb 0 ∧ x.v 4 = .ptr rb 0 ∧ h.get gb = some (.cells 65 [intsD M, .slr mb 0 (2 * i) 5 (some (2 * l.length))]) ∧ h.get mb = some (.cells 148 ((movsF M 0 (l.take i)).flatMap moC)) ∧ h.get rb = some (.cells 65 nil2) ∧ gb < h.next ∧ mb < h.next ∧ rb < h.next ∧ gb ≠ mb ∧ gb ≠ rb ∧ mb ≠ rb ∧ h.Fr
set_option maxHeartbeats 8000000 in
theorem moves_round (M : List Int) (hM : Rise M) (hml : M.length ≤ 64) (l : List Clm) (hl : l.length ≤ 400) (hin : ∀ c ∈ l, c.a ∈ M ∧ c.b ∈ M ∧ -100000 ≤ c.lo ∧ c.lo ≤ 100000) : ∀ n, 80 ≤ n → ∀ k s, G1 M l k s → Res (k39l1.ev ⟨pg, 81, none⟩ (rc pg n) s) (Rnd (G1 M l) (fun x s => x = .exit 2 ∧ G1 M l 0 s) k) := by
  rintro n hn k s ⟨x, h, i, gb, mb, rb, rfl, hik, v1, v38, v39, v40, v8, v4, hg, hm, hr, gn, mn, rn, d1, d2, d3, hf⟩
  simp only [clsD] at v38
  simp only [eachD] at v1
  simp only [intsD] at hg
  by_cases hi : i < l.length
  · obtain ⟨c, hc⟩ : ∃ c, l[i] = c := ⟨_, rfl⟩
    obtain ⟨ma, mb', lo1, lo2⟩ := hin c (by rw [← hc]; exact List.getElem_mem hi)
    obtain ⟨pa, ea⟩ := place_at ma
    obtain ⟨pb, eb⟩ := place_at mb'
    have w1 : IntKind.i64.wrap ((i : Int) + 1) = (i : Int) + 1 := wrap_i64 (by omega) (by omega)
    have w2 : IntKind.i64.wrap (-c.lo) = -c.lo := wrap_i64 (by omega) (by omega)
    have hfr : ∀ j, h.raw (h.next + j) = none := fun j => hf _ (by omega)
    have n1 : ∀ j, (gb = h.next + j) = False := fun j => by simp; omega
    have n2 : ∀ j, (mb = h.next + j) = False := fun j => by simp; omega
    have n3 : ∀ j, (rb = h.next + j) = False := fun j => by simp; omega
    have m1 : ∀ j, (h.next + j = gb) = False := fun j => by simp; omega
    have m2 : ∀ j, (h.next + j = mb) = False := fun j => by simp; omega
    have d1' : (gb = mb) = False := by simp [d1]
    have d4' : (mb = gb) = False := by simp [Ne.symm d1]
    have d5' : (rb = gb) = False := by simp [Ne.symm d2]
    have d6' : (rb = mb) = False := by simp [Ne.symm d3]
    have s37 : pg.sh 100 = false := rfl
    have c47 := fun h => call_of (h := h) (pg := pg) (f := 40) (args := [D.int i]) rfl (by simp) (@every_run i n (by omega))
    have pla := @place_run M hM (by omega) _ pa n (by omega)
    have plb := @place_run M hM (by omega) _ pb n (by omega)
    rw [ea] at pla
    rw [eb] at plb
    simp only [intsD] at pla plb
    have hcan := ints_canonL M
    have hz5 : zerosD [.int .i64 0, .int .i64 0, .int .i64 0, .int .i64 0, .int .i64 0] 5 1 = [D.int 0, D.int 0, D.int 0, D.int 0, D.int 0] := rfl
    have hz10 : zerosD [.int .i64 0, .bool false, .int .i64 0, .int .i64 0, .int .i64 0] 5 2 = [D.int 0, D.bool false, D.int 0, D.int 0, D.int 0, D.int 0, D.bool false, D.int 0, D.int 0, D.int 0] := rfl
    have hsn : (movsF M 0 (l.take (i + 1))).flatMap moC = (movsF M 0 (l.take i)).flatMap moC ++ (movF M i c).flatMap moC := by
      rw [List.take_add_one, List.getElem?_eq_getElem hi, hc]
      have := movs_snoc M c (l.take i) 0
      rw [Nat.zero_add, List.length_take, Nat.min_eq_left (by omega)] at this
      simp only [Option.toList_some]
      rw [this, List.flatMap_append]
    have happ : ∀ (t : Nat) (h : Heap) (X : List D), appS t 148 5 40 h 2 X mb 0 (2 * i) 5 (some (2 * l.length)) (some (.cells 148 ((movsF M 0 (l.take i)).flatMap moC))) = some (.slr mb 0 (2 * i + 2) 5 (some (2 * l.length)), h.set mb (some (.cells 148 ((movsF M 0 (l.take i)).flatMap moC ++ X)))) := fun t h X =>
      appS_cap (by rw [length_flatMap (sz := 5) moC (fun _ => rfl), movs_len, List.length_take]; omega) (by omega) (by unfold room; omega) (by unfold maxLen; omega)
    simp [k39l1, v1, v38, v39, v40, v8, v4, hi, hc, clD, clC, hz5, hz10, D.cells, D.one, hfr, Nat.add_assoc, n1, n2, n3, m1, m2, d1', d4', d5', d6', hg, hm, hr, c47, w1, w2, dcore_f, s37, hcan, pla, plb, apK_some, happ]
    refine ⟨k - 1, by omega, _, _, i + 1, gb, mb, rb, rfl, by omega, by simp [v1, eachD], by simp [v38, clsD], by simp [v39], by simp, by simp [v8], by simp [v4], by simp [n1, d1', intsD, Nat.mul_add], ?_, by simp [n3, d5', d6', hr], by simp; omega, by simp; omega, by simp; omega, d1, d2, d3, ?_⟩
    · rw [hsn]; simp [n2, d4', movF, moC]
    · repeat' first | exact hf | apply Heap.Fr.bump | apply Heap.Fr.set
      all_goals (simp <;> omega)
  · simp [k39l1, v39, v40, hi]
    exact ⟨_, _, i, gb, mb, rb, rfl, by omega, by simp [v1, eachD], by simp [v38, clsD], by simp [v39], by simp [v40], by simp [v8], by simp [v4], by simp [hg, intsD], by simp [hm], by simp [hr], by simp; omega, by simp; omega, by simp; omega, d1, d2, d3, hf.bump _⟩
end Go.Proofs.YtgbkdjlekfjkfaaGreatDoor
/- The graph of claims, by the program. -/
namespace Go.Proofs.YtgbkdjlekfjkfaaGreatDoor
open Go Go.Em Go.Em.Net
set_option maxRecDepth 100000
def dZ2 (base : Nat) (e : List D) (ts hs : List HK) (h : Heap) (ks : List Nat) (o : Option Out) : Option (D × Heap) := match o with
  | some (.ret d) => if (ks.isEmpty || d.flat || mayKill base e ts hs false ks) = true then some (d, thaw ks d h) else none
  | _ => none
theorem dZ2_ret {base : Nat} {e : List D} {ts hs : List HK} {h : Heap} {ks : List Nat} {d : D} (hk : mayKill base e ts hs false ks = true) : dZ2 base e ts hs h ks (some (.ret d)) = some (d, thaw ks d h) := by
  unfold dZ2; simp [hk]
def dZ (R : Rc) (f : FuncId) (base : Nat) (e : List D) (ts hs : List HK) (h : Heap) (z : Option (D × List Nat)) : Option (D × Heap) := match z with
  | some (a, ks) => dZ2 base e ts hs h ks (pureS R f [a])
  | none => none
theorem dZ_some {R : Rc} {f : FuncId} {base : Nat} {e : List D} {ts hs : List HK} {h : Heap} {a : D} {ks : List Nat} {o : Out} (hp : pureCall R f [a] = some o) : dZ R f base e ts hs h (some (a, ks)) = dZ2 base e ts hs h ks (some o) := by
  unfold dZ; simp [hp]
theorem dcore_y {c : Cfg} {R : Rc} {base : Nat} (d : Option Nat) (f : FuncId) (x : X) (ts hs : List HK) (wt : Nat) (e : List D) (h : Heap) (hs' : c.pg.sh f = false) :
    dcore c R base ⟨⟨none, d, .inr (.fn f [x])⟩, some ts, hs, wt, false⟩ e h = dZ R f base e ts hs h (frz (h.kill (hids base e hs)) depth (rd c.pg.gl e x)) := by
  unfold dcore dZ
  simp only [G.want, hs', Bool.false_eq_true, if_false, List.map_cons, List.map_nil, each_cons, each_nil]
  cases hz : frz (h.kill (hids base e hs)) depth (rd c.pg.gl e x) with
  | none => unfold eachK; rfl
  | some p =>
    obtain ⟨a, ks⟩ := p
    simp only [eachK_some, List.append_nil, pureA_cons]
    cases hp : pureS R f [a] with
    | none => unfold dZ2; rfl
    | some o =>
      unfold dZ2
      cases o <;> simp [Out.isPan, Out.d]
theorem two_ok (l : List Clm) : D.canonL [clsD l, eachD] = true := by simp [clsD, eachD, canonL_map clD cl_canon l]
set_option maxHeartbeats 8000000 in
theorem graph_run (l : List Clm) (h0 : chkF l = 0) {n : Nat} (hn : 1000 ≤ n) : pureCall (rc pg n) 39 [clsD l, eachD] = some (.ret (grD (marksF l) (movsF (marksF l) 0 l))) := by
  obtain ⟨m, rfl, e⟩ := body (pg := pg) (f := 39) (args := [clsD l, eachD]) (show 0 < n by omega) rfl rfl
  rw [e]
  obtain ⟨hl1, hl2, hl3⟩ := chk_ok h0
  have hok : ∀ c ∈ l, (0 ≤ c.a ∧ c.a ≤ 2048) ∧ (0 ≤ c.b ∧ c.b ≤ 2048) := fun c hc => ok_marks (hl2 c hc)
  have c36 := @marks_run l hok (by omega) m (by omega)
  have s36 : pg.sh 99 = false := rfl
  have hz0 : zerosD [.int .i64 0, .int .i64 0, .int .i64 0, .int .i64 0, .int .i64 0] 5 0 = [] := rfl
  have hz1 : zerosD [.int .i64 0, .bool false, .int .i64 0, .int .i64 0, .int .i64 0] 5 0 = [] := rfl
  have hroom : (40 : Int) * l.length ≤ (room : Int) := by unfold room; omega
  have hroom2 : (40 : Int) * (2 * l.length) ≤ (room : Int) := by unfold room; omega
  have w1 : IntKind.i64.wrap (2 * (l.length : Int)) = 2 * (l.length : Int) := wrap_i64 (by omega) (by omega)
  simp [k39, Env.v_ini, clsD, eachD, hz0, hroom, ev_loop]
  refine Res.endsAfter (lp_rule 1 (G0 l) _ (used_round l hl1) l.length m _ (by omega) ⟨_, _, 0, 96, 4, rfl, by omega, by simp [Env.v_ini, clsD], by simp [Env.v_ini, eachD], by simp [clsD], by simp, by simp, by simp, by simp, by simp, by simp [nil2], by simp, by simp, by omega, ?_⟩) ?_
  · repeat' first | exact Heap.Fr.empty | apply Heap.Fr.bump | apply Heap.Fr.set
    all_goals (simp <;> omega)
  · rintro x s ⟨rfl, x, h, i, ub, rb, rfl, hi, v0, v1, v16, v17, v18, v5, v4, hu, hr, un, rn, hne, hf⟩
    have hil : i = l.length := by omega
    subst hil
    rw [List.take_length] at hu
    simp only [clsD] at v0
    have n1 : ∀ j, (ub = h.next + j) = False := fun j => by simp; omega
    have hfz : ∀ H : Heap, frzS H 23 ub 0 l.length 5 (some (.cells 70 (l.flatMap clC))) = some (clsD l, [ub]) := by
      intro H
      have hle : 0 + l.length * 5 ≤ (l.flatMap clC).length ∧ 0 < 5 := by rw [length_flatMap (sz := 5) clC (fun _ => rfl)]; omega
      have htk : ((l.flatMap clC).drop 0).take (l.length * 5) = l.flatMap clC := List.take_of_length_le (by rw [List.drop_zero, length_flatMap (sz := 5) clC (fun _ => rfl)]; omega)
      rw [frzS_cells, if_pos hle, htk, each_canon H 22 _ (canonL_flatMap clC (fun c => by simp [clC]) l)]
      simp only [Option.map_some]
      rw [chunk_flatMap clC (by omega) (fun _ => rfl) l _ rfl]
      rfl
    obtain ⟨H2, hH2⟩ : ∃ H2, H2 = thaw [ub] (.sl false ((marksF l).map D.int)) (h.bump 81) := ⟨_, rfl⟩
    have hH2n : H2.next = h.next + 81 := by rw [hH2]; unfold thaw; split <;> simp
    have hH2r : ∀ j, j ≠ ub → H2.raw j = h.raw j := by intro j hj; rw [hH2]; unfold thaw; split <;> simp [hj]
    have hH2f : H2.Fr := by intro j hj; rw [hH2r j (by omega)]; exact hf j (by omega)
    have hD : ∀ e : List D, atId (e.getD 5 .junk) = some ub → dZ (rc pg m) 99 h.next e [HK.at 5] [HK.fr 36, HK.fr 8] (h.bump 81) (some (clsD l, [ub])) = some (.sl false ((marksF l).map D.int), H2) := by
      intro e he
      rw [dZ_some c36, dZ2_ret, hH2]
      unfold mayKill
      rw [hids_at e 5 ub [] he]
      simp [n1]
    have hfr2 : ∀ j, H2.raw (h.next + j) = none := fun j => by rw [hH2r _ (by omega)]; exact hf _ (by omega)
    have h00 : (0 : Int) ≤ 2 * (l.length : Int) := by omega
    have htn : (2 * (l.length : Int)).toNat = 2 * l.length := by omega
    have n2 : ∀ j, (h.next + j = ub) = False := fun j => by simp; omega
    simp only [clsD] at hfz hD
    simp [v0, v5, w1, dcore_y, s36, hroom2, hz1, n1, hu, hfz, hD, hH2n, hfr2, h00, htn, n2, D.cells, D.one, Nat.add_assoc, ev_loop]
    have hin : ∀ c ∈ l, c.a ∈ marksF l ∧ c.b ∈ marksF l ∧ -100000 ≤ c.lo ∧ c.lo ≤ 100000 := fun c hc => ⟨(marks_mem l c.a).2 ⟨c, hc, .inl rfl⟩, (marks_mem l c.b).2 ⟨c, hc, .inr rfl⟩, (ok_years (hl2 c hc)).1, by have := ok_years (hl2 c hc); omega⟩
    have hmc : ∀ (H : Heap) (mb : Nat), frzS H 22 mb 0 (2 * l.length) 5 (some (.cells 148 ((movsF (marksF l) 0 l).flatMap moC))) = some (mosD (movsF (marksF l) 0 l), [mb]) := by
      intro H mb
      have hle : 0 + 2 * l.length * 5 ≤ ((movsF (marksF l) 0 l).flatMap moC).length ∧ 0 < 5 := by rw [length_flatMap (sz := 5) moC (fun _ => rfl), movs_len]; omega
      have htk : (((movsF (marksF l) 0 l).flatMap moC).drop 0).take (2 * l.length * 5) = (movsF (marksF l) 0 l).flatMap moC := List.take_of_length_le (by rw [List.drop_zero, length_flatMap (sz := 5) moC (fun _ => rfl), movs_len]; omega)
      rw [frzS_cells, if_pos hle, htk, each_canon H 21 _ (canonL_flatMap moC (fun c => by simp [moC]) _)]
      simp only [Option.map_some]
      rw [chunk_flatMap moC (by omega) (fun _ => rfl) (movsF (marksF l) 0 l) _ (by rw [movs_len])]
      rfl
    refine Res.endsAfter (lp_rule 80 (G1 (marksF l) l) _ (moves_round (marksF l) (marks_rise l) hl3 l hl1 hin) l.length m _ (by omega) ⟨_, _, 0, h.next + 8, h.next + 36, rb, rfl, by omega, by simp [v1, eachD], by simp [clsD], by simp, by simp, by simp, by simp [v4], by simp [intsD], by simp [movsF], ?_, by simp; omega, by simp; omega, by simp; omega, by omega, by omega, by omega, ?_⟩) ?_
    · have : H2.get rb = h.get rb := by unfold Heap.get; rw [hH2r rb (Ne.symm hne)]
      simp [show rb ≠ h.next + 8 by omega, show rb ≠ h.next + 36 by omega, this, hr]
    · repeat' first | exact hH2f | apply Heap.Fr.bump | apply Heap.Fr.set
      all_goals first | omega | (simp <;> omega)
    · rintro x s ⟨rfl, x, h', i, gb, mb, rb, rfl, hi, v1, v38, v39, v40, v8, v4, hg, hm, hr, gn, mn, rn, d1, d2, d3, hf'⟩
      have hil : i = l.length := by omega
      subst hil
      rw [List.take_length] at hm
      have q1 : (mb = rb) = False := by simp [d3]
      simp only [intsD] at hg
      simp only [mosD] at hmc
      have hcan := ints_canonL (marksF l)
      simp [v8, v4, hg, hr, nil2, D.cells, D.one, q1, hm, hmc, grD, intsD, mosD]
end Go.Proofs.YtgbkdjlekfjkfaaGreatDoor
/- A net without bounds, by the program. -/
namespace Go.Proofs.YtgbkdjlekfjkfaaGreatDoor
open Go Go.Em Go.Em.Net
set_option maxRecDepth 100000
def rowS (n k : Nat) : D := .slr k 0 n 1 (some n)
def nilS : D := .val (.slice none 0 0)
def Nd (h0 : Heap) (M : List Int) (mb rb : Nat) (k : Nat) (s : St) : Prop := ∃ (x : Env 31) (h : Heap) (i : Nat) (ks : List Nat), s = ⟨x.l, h, []⟩ ∧ i + k = M.length ∧ x.v 0 = intsD M ∧ x.v 2 = .ptr rb 0 ∧ x.v 3 = rowS M.length mb ∧ x.v 9 = D.int M.length ∧ x.v 10 = D.int i ∧ ks.length = i ∧ h.get mb = some (.cells 40 (ks.map (rowS M.length) ++ List.replicate (M.length - i) nilS)) ∧ ks.Nodup ∧ (∀ q ∈ ks, h0.next ≤ q ∧ q < h.next ∧ q ≠ mb ∧ q ≠ rb) ∧ (∀ j, ∀ hj : j < ks.length, h.get ks[j] = some (.cells 3 (yCs M.length (fun v => if v = j then 0 else 1000000000)))) ∧ h.get rb = some (.cells 90 nil2) ∧ mb < h.next ∧ rb < h.next ∧ mb ≠ rb ∧ h0.next ≤ mb ∧ h0.next ≤ rb ∧ h.Fr ∧ Un h0 h
set_option maxHeartbeats 8000000 in
theorem nd_round (h0 : Heap) (M : List Int) (hml : M.length ≤ 64) (mb rb : Nat) : ∀ n, 80 ≤ n → ∀ k s, Nd h0 M mb rb k s → Res (k110l0.ev ⟨pg, 31, none⟩ (rc pg n) s) (Rnd (Nd h0 M mb rb) (fun x s => x = .exit 0 ∧ Nd h0 M mb rb 0 s) k) := by
  rintro n hn k s ⟨x, h, i, ks, rfl, hik, v0, v2, v3, v9, v10, hks, hm, hnd, hkq, hrow, hr, mn, rn, d1, b1, b2, hf, u1, u2⟩
  simp only [intsD] at v0
  simp only [rowS] at v3
  by_cases hi : i < M.length
  · have w1 : IntKind.i64.wrap ((i : Int) + 1) = (i : Int) + 1 := wrap_i64 (by omega) (by omega)
    have s82 : pg.sh 141 = true := rfl
    have hfr : ∀ j, h.raw (h.next + j) = none := fun j => hf _ (by omega)
    have hz1 : zerosD [.int .i64 0] 1 1 = [D.int 0] := rfl
    obtain ⟨H, hH⟩ : ∃ H, H = ((((h.bump 31).bump 31).bump 31).set (h.next + 77) (some (.cells 3 [D.int 1000000000]))).set (h.next + 77) none := ⟨_, rfl⟩
    have hHf : H.Fr := by
      rw [hH]
      repeat' first | exact hf | apply Heap.Fr.bump | apply Heap.Fr.set
      all_goals first | omega | (simp <;> omega)
    have hHn : H.next = h.next + 93 := by rw [hH]; simp
    have hHr : ∀ j, j < h.next → H.raw j = h.raw j := fun j hj => by rw [hH]; simp [show j ≠ h.next + 77 by omega]
    obtain ⟨b, h1, e1, g1, q1, f1, q0, t1, t2⟩ := rep_sh 1000000000 hml (by omega) hHf (f := n) (by omega)
    have c82 := call_sh (pg := pg) s82 e1
    have h1r : ∀ j, j < h.next → h1.raw j = h.raw j := fun j hj => by rw [t2 j (by omega), hHr j hj]
    have h1g : ∀ j, j < h.next → h1.get j = h.get j := fun j hj => by unfold Heap.get; rw [h1r j hj]
    obtain ⟨L, hL⟩ : ∃ L, L = ks.map (rowS M.length) ++ List.replicate (M.length - i) nilS := ⟨_, rfl⟩
    rw [← hL] at hm
    have hLl : L.length = M.length := by rw [hL]; simp; omega
    obtain ⟨L2, hL2⟩ : ∃ L2, L2 = (ks ++ [b]).map (rowS M.length) ++ List.replicate (M.length - (i + 1)) nilS := ⟨_, rfl⟩
    have hLs : L.take i ++ D.slr b 0 M.length 1 (some M.length) :: L.drop (i + 1) = L2 := by
      rw [hL, hL2, show M.length - i = (M.length - (i + 1)) + 1 by omega, List.replicate_succ, List.take_left' (by simp [hks]), List.map_append, List.append_assoc]
      rw [show i + 1 = (ks.map (rowS M.length)).length + 1 by simp [hks], List.drop_append]
      simp [rowS]
    have hL2l : L2.length = M.length := by rw [hL2]; simp; omega
    have hL2g : ∀ h' : i < L2.length, L2[i]'h' = D.slr b 0 M.length 1 (some M.length) := fun h' => by
      have : L2[i]? = some (D.slr b 0 M.length 1 (some M.length)) := by
        rw [hL2, List.getElem?_append_left (by simp; omega), List.getElem?_map, List.getElem?_append_right (by omega)]
        simp [hks, rowS]
      rw [List.getElem?_eq_getElem h'] at this
      exact Option.some.inj this
    obtain ⟨R, hR⟩ : ∃ R, R = (List.replicate M.length (1000000000 : Int)).map D.int := ⟨_, rfl⟩
    rw [← hR] at g1
    have hRl : R.length = M.length := by rw [hR]; simp
    have hRs : R.take i ++ D.int 0 :: R.drop (i + 1) = yCs M.length (fun v => if v = i then 0 else 1000000000) := by
      have e0 : R = yCs M.length (fun _ => 1000000000) := by
        rw [hR]; unfold yCs
        rw [List.map_replicate]
        symm
        refine List.eq_replicate_iff.2 ⟨by simp, fun d hd => ?_⟩
        obtain ⟨_, _, rfl⟩ := List.mem_map.1 hd
        rfl
      rw [e0, ← yCs_set, List.set_eq_take_append_cons_drop, if_pos (by rw [yCs_len]; exact hi)]
    have i1 : i + 1 ≤ M.length := hi
    have n1 : (mb = b) = False := by simp; omega
    have n2 : (b = mb) = False := by simp; omega
    have hm1 := h1g mb mn
    rw [hm] at hm1
    simp [k110l0, v0, v2, v3, v9, v10, hi, hz1, hfr, D.cells, D.one, Nat.add_assoc, chunk, ← hH, c82, hm1, hLl, i1, hLs, hL2l, hL2g, n1, n2, g1, hRl, hRs, w1]
    have bk : ∀ q ∈ ks, q ≠ b := fun q hq e => by have := hkq q hq; omega
    refine ⟨k - 1, by omega, _, _, i + 1, ks ++ [b], rfl, by omega, by simp [v0, intsD], by simp [v2], by simp [v3, rowS], by simp [v9], by simp, by simp [hks], by simp [n1, n2, hL2], ?_, fun q hq => ?_, fun j hj => ?_, ?_, by simp; omega, by simp; omega, d1, b1, b2, ?_, by simp; omega, fun j hj => ?_⟩
    · rw [List.nodup_append]
      exact ⟨hnd, by simp, fun a ha c hc => by simp at hc; subst hc; exact bk a ha⟩
    · rcases List.mem_append.1 hq with hq | hq
      · have := hkq q hq
        simp; omega
      · simp at hq
        subst hq
        simp; omega
    · by_cases hjk : j < ks.length
      · have hq := hkq _ (List.getElem_mem hjk)
        have hb' := bk _ (List.getElem_mem hjk)
        rw [List.getElem_append_left hjk]
        simp [hb', hq.2.2.1, h1g _ hq.2.1, hrow j hjk]
      · have hje : j = ks.length := by simp at hj; omega
        subst hje
        simp [hks]
    · simp [show rb ≠ b by omega, Ne.symm d1, h1g rb rn, hr]
    · repeat' first | exact f1 | apply Heap.Fr.bump | apply Heap.Fr.set
      all_goals first | omega | (simp <;> omega)
    · have := u2 j hj
      simp [show j ≠ b by omega, show j ≠ mb by omega, h1r j (by omega), this]
  · simp [k110l0, v9, v10, hi]
    refine ⟨_, _, i, ks, rfl, by omega, by simp [v0, intsD], by simp [v2], by simp [v3, rowS], by simp [v9], by simp [v10], hks, by simp [hm], hnd, fun q hq => ?_, fun j hj => by simpa using hrow j hj, by simp [hr], by simp; omega, by simp; omega, d1, b1, b2, hf.bump _, by simp; omega, fun q hq => by simpa using u2 q hq⟩
    have := hkq q hq
    simp; omega
structure Mat (n : Nat) (A : Nat → Nat → Int) (mb : Nat) (ks : List Nat) (h : Heap) : Prop where
  len : ks.length = n
  top : h.get mb = some (.cells 40 (ks.map (rowS n)))
  nd : ks.Nodup
  lt : ∀ q ∈ ks, q < h.next ∧ q ≠ mb
  row : ∀ j, ∀ hj : j < ks.length, h.get ks[j] = some (.cells 3 (yCs n (A j)))
  mlt : mb < h.next
def far0 : Nat → Nat → Int := fun i j => if j = i then 0 else 1000000000
set_option maxHeartbeats 8000000 in
theorem nd_sh (M : List Int) (hml : M.length ≤ 64) {h : Heap} (hf : h.Fr) {f : Nat} (hfl : 200 ≤ f) : ∃ mb ks h', (rc pg f).fn 110 [intsD M] h = some (.ret (.agg [intsD M, rowS M.length mb]), h') ∧ Mat M.length far0 mb ks h' ∧ h.next ≤ mb ∧ (∀ q ∈ ks, h.next ≤ q) ∧ h'.Fr ∧ Un h h' := by
  obtain ⟨m, rfl, e⟩ := fn_body (pg := pg) (f := 110) (args := [intsD M]) (h := h) (show 0 < f by omega) rfl rfl
  rw [e]
  have hfr : ∀ j, h.raw (h.next + j) = none := fun j => hf _ (by omega)
  have hroom : (24 : Int) * M.length ≤ (room : Int) := by unfold room; omega
  have hz : zerosD [.slice none 0 0] 1 M.length = List.replicate M.length nilS := by
    unfold zerosD
    refine List.eq_replicate_iff.2 ⟨by simp, fun b hb => ?_⟩
    obtain ⟨i, _, rfl⟩ := List.mem_map.1 hb
    simp [Nat.mod_one, nilS]
  simp [k110, Env.v_ini, intsD, hfr, hroom, hz, Nat.add_assoc, ev_loop]
  suffices hS : ∃ d h', _ = some (Out.ret ((fun p : Nat × List Nat => D.agg [D.sl false (List.map D.int M), rowS M.length p.1]) d), h') ∧ (fun (p : Nat × List Nat) (h' : Heap) => Mat M.length far0 p.1 p.2 h' ∧ h.next ≤ p.1 ∧ (∀ q ∈ p.2, h.next ≤ q) ∧ h'.Fr ∧ Un h h') d h' by
    obtain ⟨⟨mb, ks⟩, h', e1, c⟩ := hS
    exact ⟨mb, ks, h', e1, c⟩
  refine Res.tailG (F := fun p : Nat × List Nat => D.agg [D.sl false (List.map D.int M), rowS M.length p.1]) (C := fun (p : Nat × List Nat) (h' : Heap) => Mat M.length far0 p.1 p.2 h' ∧ h.next ≤ p.1 ∧ (∀ q ∈ p.2, h.next ≤ q) ∧ h'.Fr ∧ Un h h')
    (lp_rule 80 (Nd h M (h.next + 38) (h.next + 2)) _ (nd_round h M hml (h.next + 38) (h.next + 2)) M.length m _ (by omega) ⟨_, _, 0, [], rfl, by omega, by simp [Env.v_ini, intsD], by simp, by simp [rowS], by simp, by simp, rfl, by simp, List.nodup_nil, fun q hq => absurd hq List.not_mem_nil, fun j hj => absurd hj (by simp), by simp [nil2], by simp <;> omega, by simp <;> omega, by omega, by omega, by omega, ?_, by simp; omega, fun q hq => by simp [show q ≠ h.next + 2 by omega, show q ≠ h.next + 38 by omega]⟩) ?_
  · repeat' first | exact hf | apply Heap.Fr.bump | apply Heap.Fr.set
    all_goals first | omega | (simp <;> omega)
  · rintro x s ⟨rfl, x, h', i, ks, rfl, hi, v0, v2, v3, v9, v10, hks, hm, hnd, hkq, hrow, hr, mn, rn, d1, b1, b2, hf', u1, u2⟩
    have hil : i = M.length := by omega
    subst hil
    rw [Nat.sub_self, List.replicate_zero, List.append_nil] at hm
    simp only [intsD] at v0
    simp only [rowS] at v3
    have n1 : (h.next + 38 = h.next + 2) = False := by simp
    simp [v0, v2, v3, hr, nil2, D.cells, D.one]
    refine ⟨h.next + 38, ks, _, ⟨rfl, rfl⟩, ⟨by omega, by simp [hm], hnd, fun q hq => ?_, fun j hj => ?_, by simp; omega⟩, b1, fun q hq => (hkq q hq).1, ?_, by simp; omega, fun q hq => ?_⟩
    · have := hkq q hq
      simp; omega
    · have hq := hkq _ (List.getElem_mem hj)
      simp [hq.2.2.2, hrow j hj]
      rfl
    · exact (hf'.bump _).set _ (by simp; omega)
    · have := u2 q hq
      simp [show q ≠ h.next + 2 by omega, this]
end Go.Proofs.YtgbkdjlekfjkfaaGreatDoor
/- A number of a net is lowered, by the program. -/
namespace Go.Proofs.YtgbkdjlekfjkfaaGreatDoor
open Go Go.Em Go.Em.Net
set_option maxRecDepth 100000
def updA (A : Nat → Nat → Int) (i j : Nat) (v : Int) : Nat → Nat → Int := fun a b => if a = i ∧ b = j then v else A a b
def Only (ks : List Nat) (h h' : Heap) : Prop := h.next ≤ h'.next ∧ ∀ q, q < h.next → q ∉ ks → h'.raw q = h.raw q
theorem Only.get {ks : List Nat} {h h' : Heap} (o : Only ks h h') {q : Nat} (h1 : q < h.next) (h2 : q ∉ ks) : h'.get q = h.get q := by unfold Heap.get; rw [o.2 q h1 h2]
theorem Only.trans {ks : List Nat} {a b c : Heap} (o : Only ks a b) (p : Only ks b c) : Only ks a c := ⟨Nat.le_trans o.1 p.1, fun q h1 h2 => by rw [p.2 q (Nat.lt_of_lt_of_le h1 o.1) h2, o.2 q h1 h2]⟩
theorem Mat.at {n : Nat} {A : Nat → Nat → Int} {mb : Nat} {ks : List Nat} {h : Heap} (m : Mat n A mb ks h) {i : Nat} (hi : i < n) : ∃ k, (∀ h', (ks.map (rowS n))[i]'h' = rowS n k) ∧ k ∈ ks ∧ (∀ hj : i < ks.length, ks[i] = k) ∧ h.get k = some (.cells 3 (yCs n (A i))) := by
  have hl := m.len
  exact ⟨ks[i], fun h' => by simp, List.getElem_mem _, fun _ => rfl, m.row i (by omega)⟩
theorem Mat.put {n : Nat} {A B : Nat → Nat → Int} {mb : Nat} {ks : List Nat} {h h' : Heap} (m : Mat n A mb ks h) {i : Nat} (hi : i < n) {k : Nat} (hk : ∀ hj : i < ks.length, ks[i] = k) (hg : h'.get k = some (.cells 3 (yCs n (B i)))) (ho : ∀ q, q < h.next → q ≠ k → h'.get q = h.get q) (hn : h.next ≤ h'.next) (hB : ∀ a, a ≠ i → B a = A a) : Mat n B mb ks h' := by
  have hl := m.len
  have hkk := hk (by omega)
  have hkm : k ∈ ks := by rw [← hkk]; exact List.getElem_mem _
  refine ⟨hl, ?_, m.nd, fun q hq => ⟨Nat.lt_of_lt_of_le (m.lt q hq).1 hn, (m.lt q hq).2⟩, fun j hj => ?_, Nat.lt_of_lt_of_le m.mlt hn⟩
  · rw [ho mb m.mlt (Ne.symm (m.lt k hkm).2)]; exact m.top
  · by_cases hji : j = i
    · subst hji; rw [hkk]; exact hg
    · have hne : ks[j] ≠ k := fun e => by
        rw [← hkk] at e
        have hp := List.pairwise_iff_getElem.1 m.nd
        rcases Nat.lt_or_gt_of_ne hji with h1 | h1
        · exact hp j i hj (by omega) h1 e
        · exact hp i j (by omega) hj h1 e.symm
      rw [ho _ (m.lt _ (List.getElem_mem hj)).1 hne, hB j hji]
      exact m.row j hj
set_option maxHeartbeats 8000000 in
theorem lower_sh {n : Nat} {A : Nat → Nat → Int} {mb : Nat} {ks : List Nat} {h : Heap} (hm : Mat n A mb ks h) (hf : h.Fr) (X : D) (hX : D.one X = true) {i j : Nat} (hi : i < n) (hj : j < n) (v : Int) {f : Nat} (hfl : 1 ≤ f) : ∃ h', (rc pg f).fn 111 [.agg [X, rowS n mb], D.int i, D.int j, D.int v] h = some (.ret (.tup []), h') ∧ Mat n (updA A i j (min (A i j) v)) mb ks h' ∧ Only ks h h' ∧ h'.Fr := by
  obtain ⟨m, rfl, e⟩ := fn_body (pg := pg) (f := 111) (args := [.agg [X, rowS n mb], D.int i, D.int j, D.int v]) (h := h) (show 0 < f by omega) rfl rfl
  rw [e]
  have hfr : ∀ j, h.raw (h.next + j) = none := fun j => hf _ (by omega)
  obtain ⟨k, k1, k2, k3, k4⟩ := hm.at hi
  have hkl := hm.lt k k2
  have hmlt := hm.mlt
  have n1 : ∀ j, (mb = h.next + j) = False := fun j => by simp; omega
  have n2 : ∀ j, (k = h.next + j) = False := fun j => by simp; omega
  have m1 : ∀ j, (h.next + j = mb) = False := fun j => by simp; omega
  have m2 : ∀ j, (h.next + j = k) = False := fun j => by simp; omega
  have hks := hm.len
  have htop := hm.top
  obtain ⟨L, hL⟩ : ∃ L, L = ks.map (rowS n) := ⟨_, rfl⟩
  rw [← hL] at htop k1
  have hLl : L.length = n := by rw [hL]; simp [hks]
  simp only [rowS] at k1
  have i1 : i + 1 ≤ n := hi
  have j1 : j + 1 ≤ n := hj
  have hyl := yCs_len n (A i)
  have hyg : ∀ h' : j < (yCs n (A i)).length, (yCs n (A i))[j]'h' = D.int (A i j) := fun h' => Option.some.inj (by rw [← List.getElem?_eq_getElem h']; exact yCs_get hj)
  have hst : (yCs n (A i)).take j ++ D.int (min (A i j) v) :: (yCs n (A i)).drop (j + 1) = yCs n (updA A i j (min (A i j) v) i) := by
    have : updA A i j (min (A i j) v) i = fun b => if b = j then min (A i j) v else A i b := by funext b; simp [updA]
    rw [this, ← yCs_set, List.set_eq_take_append_cons_drop, if_pos (by rw [hyl]; exact hj)]
  have o1 : ∀ a b c d (e : Option Nat), D.one (.slr a b c d e) = true := fun _ _ _ _ _ => rfl
  have o2 : ∀ a : Int, D.one (.val (.int .i64 a)) = true := fun _ => rfl
  simp [k111, Env.v_ini, rowS, hfr, D.cells, o1, o2, hX, Nat.add_assoc, htop, k1, k4, hLl, i1, j1, hi, hj, hyl, hyg, hst, n1, n2, m1, m2]
  refine ⟨hm.put (B := updA A i j (min (A i j) v)) hi k3 (by simp) (fun q hq hk => ?_) (by simp; omega) (fun a ha => ?_), ⟨by simp; omega, fun q hq hk => ?_⟩, ?_⟩
  · simp [hk, show q ≠ h.next + 4 by omega]
  · funext b; simp [updA, ha]
  · have : q ≠ k := fun e => hk (by rw [e]; exact k2)
    simp [this, show q ≠ h.next + 4 by omega]
  · repeat' first | exact hf | apply Heap.Fr.bump | apply Heap.Fr.set
    all_goals first | omega | (simp <;> omega)
end Go.Proofs.YtgbkdjlekfjkfaaGreatDoor
/- The numbers of a net are lowered over one mark, by the program. -/
namespace Go.Proofs.YtgbkdjlekfjkfaaGreatDoor
open Go Go.Em Go.Em.Net
set_option maxRecDepth 100000
def stI (k i : Nat) (A : Nat → Nat → Int) (j : Nat) : Nat → Nat → Int := if A k j = 1000000000 then A else updA A i j (min (A i j) (A i k + A k j))
def rowI (k i : Nat) (A : Nat → Nat → Int) : Nat → Nat → Nat → Int
  | 0 => A
  | J + 1 => stI k i (rowI k i A J) J
def stageI (n k : Nat) (A : Nat → Nat → Int) : Nat → Nat → Nat → Int
  | 0 => A
  | I + 1 => if stageI n k A I I k = 1000000000 then stageI n k A I else rowI k I (stageI n k A I) n
structure ThrK (M : List Int) (n k mb bx : Nat) (rk : Nat) (x : Env 58) (i : Nat) : Prop where
  v1 : x.v 1 = D.int k
  v2 : x.v 2 = .ptr bx 0
  v4 : x.v 4 = rowS n rk
  v16 : x.v 16 = rowS n mb
  v17 : x.v 17 = D.int n
  v18 : x.v 18 = D.int i
structure ThrH (M : List Int) (n : Nat) (B : Nat → Nat → Int) (mb bx : Nat) (ks : List Nat) (h0 h : Heap) : Prop where
  mat : Mat n B mb ks h
  only : Only ks h0 h
  box : h.get bx = some (.cells 90 [intsD M, rowS n mb])
  bn : bx < h.next
  bm : bx ≠ mb
  bk : bx ∉ ks
  fr : h.Fr
theorem Mat.bump {n : Nat} {A : Nat → Nat → Int} {mb : Nat} {ks : List Nat} {h : Heap} (m : Mat n A mb ks h) (z : Nat) : Mat n A mb ks (h.bump z) :=
  ⟨m.len, by simp [m.top], m.nd, fun q hq => by have := m.lt q hq; simp; omega, fun j hj => by simp [m.row j hj], by have := m.mlt; simp; omega⟩
theorem Only.bump {ks : List Nat} {h h' : Heap} (o : Only ks h h') (z : Nat) : Only ks h (h'.bump z) := ⟨by have := o.1; simp; omega, fun q h1 h2 => by simp [o.2 q h1 h2]⟩
theorem ThrH.bump {M : List Int} {n : Nat} {B : Nat → Nat → Int} {mb bx : Nat} {ks : List Nat} {h0 h : Heap} (t : ThrH M n B mb bx ks h0 h) (z : Nat) : ThrH M n B mb bx ks h0 (h.bump z) :=
  ⟨t.mat.bump z, t.only.bump z, by simp [t.box], by have := t.bn; simp; omega, t.bm, t.bk, t.fr.bump z⟩
theorem ThrH.put {M : List Int} {n : Nat} {A B : Nat → Nat → Int} {mb bx : Nat} {ks : List Nat} {h0 h : Heap} (t : ThrH M n A mb bx ks h0 h) {i k : Nat} (hi : i < n) (hk : ∀ hj : i < ks.length, ks[i] = k) (hB : ∀ a, a ≠ i → B a = A a) : ThrH M n B mb bx ks h0 (h.set k (some (.cells 3 (yCs n (B i))))) := by
  have hl := t.mat.len
  have hkm : k ∈ ks := by rw [← hk (by omega)]; exact List.getElem_mem _
  have hkn := t.mat.lt k hkm
  refine ⟨t.mat.put (B := B) hi hk (by simp) (fun q hq hk => by simp [hk]) (by simp) hB, ⟨by have := t.only.1; simp; omega, fun q h1 h2 => ?_⟩, ?_, by have := t.bn; simp; omega, t.bm, t.bk, t.fr.set _ hkn.1⟩
  · have : q ≠ k := fun e => h2 (by rw [e]; exact hkm)
    simp [this, t.only.2 q h1 h2]
  · have : bx ≠ k := fun e => t.bk (by rw [e]; exact hkm)
    simp [this, t.box]
def T0 (M : List Int) (n k i : Nat) (A : Nat → Nat → Int) (mb bx rk ri : Nat) (ks : List Nat) (h0 : Heap) (c : Nat) (s : St) : Prop := ∃ (x : Env 58) (h : Heap) (j : Nat), s = ⟨x.l, h, []⟩ ∧ j + c = n ∧ ThrK M n k mb bx rk x i ∧ x.v 6 = rowS n ri ∧ x.v 30 = D.int n ∧ x.v 31 = D.int j ∧ ThrH M n (rowI k i A j) mb bx ks h0 h
set_option maxHeartbeats 8000000 in
theorem thr_round (M : List Int) (n k i : Nat) (hk : k < n) (hi : i < n) (hn : n ≤ 64) (A : Nat → Nat → Int) (mb bx rk ri : Nat) (ks : List Nat) (h0 : Heap) (hrk : ∀ hj : k < ks.length, ks[k] = rk) (hri : ∀ hj : i < ks.length, ks[i] = ri) (hb : ∀ J, J ≤ n → ∀ a b, -1000000000000 ≤ rowI k i A J a b ∧ rowI k i A J a b ≤ 1000000000000) :
    ∀ f, 0 ≤ f → ∀ c s, T0 M n k i A mb bx rk ri ks h0 c s → Res (k112l0.ev ⟨pg, 58, none⟩ (rc pg f) s) (Rnd (T0 M n k i A mb bx rk ri ks h0) (fun x s => x = .exit 2 ∧ T0 M n k i A mb bx rk ri ks h0 0 s) c) := by
  rintro f hf c s ⟨x, h, j, rfl, hjc, ⟨v1, v2, v4, v16, v17, v18⟩, v6, v30, v31, hH⟩
  obtain ⟨hm, ho, hbx, bn, bm, bk, hfr'⟩ := hH
  have hH : ThrH M n (rowI k i A j) mb bx ks h0 h := ⟨hm, ho, hbx, bn, bm, bk, hfr'⟩
  simp only [rowS] at v4 v6
  by_cases hj : j < n
  · obtain ⟨B, hB⟩ : ∃ B, B = rowI k i A j := ⟨_, rfl⟩
    have hBn : rowI k i A (j + 1) = stI k i B j := by rw [rowI, hB]
    have hbj := hb j (by omega)
    rw [← hB] at hm hbj hH
    have w1 : IntKind.i64.wrap ((j : Int) + 1) = (j : Int) + 1 := wrap_i64 (by omega) (by omega)
    have w2 : IntKind.i64.wrap (B i k + B k j) = B i k + B k j := by
      have := hbj i k; have := hbj k j
      exact wrap_i64 (by omega) (by omega)
    have hfr : ∀ j, h.raw (h.next + j) = none := fun j => hfr' _ (by omega)
    have hl := hm.len
    have gk : h.get rk = some (.cells 3 (yCs n (B k))) := by rw [← hrk (by omega)]; exact hm.row k (by omega)
    have gi : h.get ri = some (.cells 3 (yCs n (B i))) := by rw [← hri (by omega)]; exact hm.row i (by omega)
    have rkm : rk ∈ ks := by rw [← hrk (by omega)]; exact List.getElem_mem _
    have rim : ri ∈ ks := by rw [← hri (by omega)]; exact List.getElem_mem _
    have hrin := hm.lt ri rim
    have i1 : i + 1 ≤ n := hi
    have k1 : k + 1 ≤ n := hk
    have j1 : j + 1 ≤ n := hj
    have hyl : ∀ y : Nat → Int, (yCs n y).length = n := yCs_len n
    have hyg : ∀ (y : Nat → Int) (h' : j < (yCs n y).length), (yCs n y)[j]'h' = D.int (y j) := fun y h' => Option.some.inj (by rw [← List.getElem?_eq_getElem h']; exact yCs_get hj)
    have hyk : ∀ (y : Nat → Int) (h' : k < (yCs n y).length), (yCs n y)[k]'h' = D.int (y k) := fun y h' => Option.some.inj (by rw [← List.getElem?_eq_getElem h']; exact yCs_get hk)
    obtain ⟨V, hV⟩ : ∃ V, V = min (B i j) (B i k + B k j) := ⟨_, rfl⟩
    have hst : (yCs n (B i)).take j ++ D.int V :: (yCs n (B i)).drop (j + 1) = yCs n (updA B i j V i) := by
      have : updA B i j V i = fun b => if b = j then V else B i b := by funext b; simp [updA]
      rw [this, ← yCs_set, List.set_eq_take_append_cons_drop, if_pos (by rw [hyl]; exact hj)]
    have o2 : ∀ a : Int, D.one (.val (.int .i64 a)) = true := fun _ => rfl
    by_cases hfar : B k j = 1000000000
    · have hBs : stI k i B j = B := by unfold stI; rw [if_pos hfar]
      simp [k112l0, v1, v2, v4, v6, v30, v31, hj, hfar, gk, hyl, hyg, j1, w1]
      refine ⟨c - 1, by omega, _, _, j + 1, rfl, by omega, ⟨by simp [v1], by simp [v2], by simp [v4, rowS], by simp [v16], by simp [v17], by simp [v18]⟩, by simp [v6, rowS], by simp [v30], by simp, ?_⟩
      rw [hBn, hBs]
      repeat' first | exact hH | apply ThrH.bump
    · have hfar' : (B k j != 1000000000) = true := by simp [hfar]
      have hBs : stI k i B j = updA B i j V := by unfold stI; rw [if_neg hfar, hV]
      simp [-bne_iff_ne, k112l0, v1, v2, v4, v6, v30, v31, hj, hfar', gk, gi, hyl, hyg, hyk, j1, i1, k1, hk, hi, w1, w2, D.cells, o2, ← hV, hst]
      refine ⟨c - 1, by omega, _, _, j + 1, rfl, by omega, ⟨by simp [v1], by simp [v2], by simp [v4, rowS], by simp [v16], by simp [v17], by simp [v18]⟩, by simp [v6, rowS], by simp [v30], by simp, ?_⟩
      rw [hBn, hBs]
      refine ThrH.bump (ThrH.put ((((hH.bump _).bump _).bump _).bump _) hi hri fun a ha => ?_) _
      funext b; simp [updA, ha]
  · simp [k112l0, v30, v31, hj]
    exact ⟨_, _, j, rfl, by omega, ⟨by simp [v1], by simp [v2], by simp [v4, rowS], by simp [v16], by simp [v17], by simp [v18]⟩, by simp [v6, rowS], by simp [v30], by simp [v31], hH.bump _⟩
end Go.Proofs.YtgbkdjlekfjkfaaGreatDoor
/- The numbers of a net are lowered over one mark, by the program: all rows. -/
namespace Go.Proofs.YtgbkdjlekfjkfaaGreatDoor
open Go Go.Em Go.Em.Net
set_option maxRecDepth 100000
def T1 (M : List Int) (n k : Nat) (A : Nat → Nat → Int) (mb bx rk : Nat) (ks : List Nat) (h0 : Heap) (c : Nat) (s : St) : Prop := ∃ (x : Env 58) (h : Heap) (i : Nat), s = ⟨x.l, h, []⟩ ∧ i + c = n ∧ ThrK M n k mb bx rk x i ∧ ThrH M n (stageI n k A i) mb bx ks h0 h
set_option maxHeartbeats 8000000 in
theorem thr_rows (M : List Int) (n k : Nat) (hMn : M.length = n) (hk : k < n) (hn : n ≤ 64) (A : Nat → Nat → Int) (mb bx rk : Nat) (ks : List Nat) (h0 : Heap) (hrk : ∀ hj : k < ks.length, ks[k] = rk) (hb : ∀ I, I < n → stageI n k A I I k ≠ 1000000000 → ∀ J, J ≤ n → ∀ a b, -1000000000000 ≤ rowI k I (stageI n k A I) J a b ∧ rowI k I (stageI n k A I) J a b ≤ 1000000000000) :
    ∀ f, 100 ≤ f → ∀ c s, T1 M n k A mb bx rk ks h0 c s → Res (k112l1.ev ⟨pg, 58, none⟩ (rc pg f) s) (Rnd (T1 M n k A mb bx rk ks h0) (fun x s => x = .exit 0 ∧ T1 M n k A mb bx rk ks h0 0 s) c) := by
  rintro f hf c s ⟨x, h, i, rfl, hic, ⟨v1, v2, v4, v16, v17, v18⟩, hH⟩
  simp only [rowS] at v16
  by_cases hi : i < n
  · obtain ⟨B, hB⟩ : ∃ B, B = stageI n k A i := ⟨_, rfl⟩
    have hbi := hb i hi
    rw [← hB] at hH hbi
    have w1 : IntKind.i64.wrap ((i : Int) + 1) = (i : Int) + 1 := wrap_i64 (by omega) (by omega)
    have hm := hH.mat
    have hl := hm.len
    have htop := hm.top
    have hbox := hH.box
    simp only [intsD] at hbox
    obtain ⟨ri, r1, r2, r3, r4⟩ := hm.at hi
    obtain ⟨L, hL⟩ : ∃ L, L = ks.map (rowS n) := ⟨_, rfl⟩
    rw [← hL] at htop r1
    have hLl : L.length = n := by rw [hL]; simp [hl]
    simp only [rowS] at r1
    have i1 : i + 1 ≤ n := hi
    have k1 : k + 1 ≤ n := hk
    have hyl : ∀ y : Nat → Int, (yCs n y).length = n := yCs_len n
    have hyk : ∀ (y : Nat → Int) (h' : k < (yCs n y).length), (yCs n y)[k]'h' = D.int (y k) := fun y h' => Option.some.inj (by rw [← List.getElem?_eq_getElem h']; exact yCs_get hk)
    by_cases hfar : B i k = 1000000000
    · have hS : stageI n k A (i + 1) = B := by rw [stageI, ← hB, if_pos hfar]
      simp [k112l1, v16, v17, v18, hi, htop, r1, hLl, i1, v1, r4, hyl, hyk, hk, k1, hfar, w1]
      refine ⟨c - 1, by omega, _, _, i + 1, rfl, by omega, ⟨by simp [v1], by simp [v2], by simp [v4], by simp [v16, rowS], by simp [v17], by simp⟩, ?_⟩
      rw [hS]
      repeat' first | exact hH | apply ThrH.bump
    · have hfar' : (B i k == 1000000000) = false := by simp [hfar]
      have hS : stageI n k A (i + 1) = rowI k i B n := by rw [stageI, ← hB, if_neg hfar]
      simp [-beq_eq_false_iff_ne, k112l1, v16, v17, v18, hi, htop, r1, hLl, i1, v1, v2, hbox, r4, hyl, hyk, hk, k1, hfar', ev_loop, hMn]
      refine Res.after (P := fun x s => x = .normal ∧ T0 M n k i B mb bx rk ri ks h0 0 s) (Res.block (lp_rule 0 (T0 M n k i B mb bx rk ri ks h0) _ (thr_round M n k i hk hi hn B mb bx rk ri ks h0 hrk r3 (hbi hfar)) n f _ (by omega)
        ⟨_, _, 0, rfl, by omega, ⟨by simp [v1], by simp [v2], by simp [v4], by simp [v16, rowS], by simp [v17], by simp [v18]⟩, by simp [rowS], by simp, by simp, ?_⟩) (by rintro x s ⟨rfl, hh⟩; simp; exact hh)) ?_
      · show ThrH M n (rowI k i B 0) mb bx ks h0 _
        rw [rowI]
        repeat' first | exact hH | apply ThrH.bump
      · rintro x' s' ⟨rfl, x, h, j, rfl, hj, ⟨v1, v2, v4, v16, v17, v18⟩, v6, v30, v31, hH'⟩
        have hjn : j = n := by omega
        subst hjn
        simp [v18, w1]
        exact ⟨c - 1, by omega, _, _, i + 1, rfl, by omega, ⟨by simp [v1], by simp [v2], by simp [v4], by simp [v16], by simp [v17], by simp⟩, by rw [hS]; exact hH'.bump _⟩
  · simp [k112l1, v17, v18, hi]
    exact ⟨_, _, i, rfl, by omega, ⟨by simp [v1], by simp [v2], by simp [v4], by simp [v16, rowS], by simp [v17], by simp [v18]⟩, hH.bump _⟩
theorem Res.fin {o : Option (Ex × St)} {id : Nat} {R : Rc} {rs : List (ResultVar × Bool × Nat)} {P : Ex → St → Prop} {r : Out} {C : Heap → Prop} (h : Res o P)
    (hk : ∀ x s, P x s → ∃ h', endH R rs (blockK id (some (x, s))) = some (r, h') ∧ C h') : ∃ h', endH R rs (blockK id o) = some (r, h') ∧ C h' := by
  obtain ⟨x, s, rfl, p⟩ := h; exact hk x s p
set_option maxHeartbeats 8000000 in
theorem thr_sh {M : List Int} {n : Nat} (hMn : M.length = n) (hn : n ≤ 64) {A : Nat → Nat → Int} {mb : Nat} {ks : List Nat} {h : Heap} (hm : Mat n A mb ks h) (hf : h.Fr) {k : Nat} (hk : k < n) (hb : ∀ I, I < n → stageI n k A I I k ≠ 1000000000 → ∀ J, J ≤ n → ∀ a b, -1000000000000 ≤ rowI k I (stageI n k A I) J a b ∧ rowI k I (stageI n k A I) J a b ≤ 1000000000000) {f : Nat} (hfl : 300 ≤ f) :
    ∃ h', (rc pg f).fn 112 [.agg [intsD M, rowS n mb], D.int k] h = some (.ret (.tup []), h') ∧ Mat n (stageI n k A n) mb ks h' ∧ Only ks h h' ∧ h'.Fr := by
  obtain ⟨m, rfl, e⟩ := fn_body (pg := pg) (f := 112) (args := [.agg [intsD M, rowS n mb], D.int k]) (h := h) (show 0 < f by omega) rfl rfl
  rw [e]
  have hfr : ∀ j, h.raw (h.next + j) = none := fun j => hf _ (by omega)
  obtain ⟨rk, k1, k2, k3, k4⟩ := hm.at hk
  have hkl := hm.lt rk k2
  have hmlt := hm.mlt
  have hl := hm.len
  have htop := hm.top
  have n1 : ∀ j, (mb = h.next + j) = False := fun j => by simp; omega
  obtain ⟨L, hL⟩ : ∃ L, L = ks.map (rowS n) := ⟨_, rfl⟩
  rw [← hL] at htop k1
  have hLl : L.length = n := by rw [hL]; simp [hl]
  simp only [rowS] at k1
  have kk1 : k + 1 ≤ n := hk
  have o1 : ∀ a b c d (e : Option Nat), D.one (.slr a b c d e) = true := fun _ _ _ _ _ => rfl
  have o3 : ∀ (z : Bool) (l : List D), D.one (.sl z l) = true := fun _ _ => rfl
  simp [k112, Env.v_ini, intsD, rowS, hfr, D.cells, o1, o3, Nat.add_assoc, htop, k1, hLl, hk, kk1, n1, ev_loop]
  refine Res.fin (lp_rule 100 (T1 M n k A mb (h.next + 2) rk ks h) _ (thr_rows M n k hMn hk hn A mb (h.next + 2) rk ks h k3 hb) n m _ (by omega) ⟨_, _, 0, rfl, by omega, ⟨by simp [Env.v_ini], by simp, by simp [rowS], by simp [rowS], by simp, by simp⟩, ?_⟩) ?_
  · have hks : ∀ q ∈ ks, q ≠ h.next + 2 := fun q hq => by have := (hm.lt q hq).1; omega
    refine ThrH.bump (ThrH.bump ⟨⟨hl, by simp [n1, hm.top], hm.nd, fun q hq => by have := hm.lt q hq; simp <;> omega, fun j hj => by simp [hks _ (List.getElem_mem hj), hm.row j hj, stageI], by simp <;> omega⟩, ⟨by simp <;> omega, fun q h1 h2 => by simp [show q ≠ h.next + 2 by omega]⟩, by simp [intsD, rowS], by simp <;> omega, by omega, fun hq => hks _ hq rfl, ?_⟩ _) _
    exact (hf.bump _).set _ (by simp <;> omega)
  · rintro x s ⟨rfl, x, h', i, rfl, hi, hK, hT⟩
    have hin : i = n := by omega
    subst hin
    simp
    exact ⟨hT.mat, hT.only, hT.fr⟩
end Go.Proofs.YtgbkdjlekfjkfaaGreatDoor
/- The closure of a graph, by the program. -/
namespace Go.Proofs.YtgbkdjlekfjkfaaGreatDoor
open Go Go.Em Go.Em.Net
set_option maxRecDepth 100000
def lowI (A : Nat → Nat → Int) (m : Mo) : Nat → Nat → Int := updA A m.fr m.to_ (min (A m.fr m.to_) m.mo)
def farN (n : Nat) : Nat → Nat → Int := fun i j => if j = i ∧ i < n then 0 else 1000000000
def initI (n : Nat) (l : List Mo) : Nat → Nat → Int := l.foldl lowI (farN n)
theorem Mat.congr {n : Nat} {A B : Nat → Nat → Int} {mb : Nat} {ks : List Nat} {h : Heap} (m : Mat n A mb ks h) (he : ∀ a b, a < n → b < n → A a b = B a b) : Mat n B mb ks h := by
  refine ⟨m.len, m.top, m.nd, m.lt, fun j hj => ?_, m.mlt⟩
  have hl := m.len
  rw [m.row j hj]
  have : yCs n (A j) = yCs n (B j) := by
    unfold yCs
    refine List.map_congr_left fun v hv => ?_
    rw [he j v (by omega) (List.mem_range.1 hv)]
  rw [this]
def closI (n : Nat) (A : Nat → Nat → Int) : Nat → Nat → Nat → Int
  | 0 => A
  | k + 1 => stageI n k (closI n A k) n
structure CloH (M : List Int) (B : Nat → Nat → Int) (mb gb rb : Nat) (ks : List Nat) (l : List Mo) (h : Heap) : Prop where
  mat : Mat M.length B mb ks h
  g : h.get gb = some (.cells 65 [intsD M, mosD l])
  r : h.get rb = some (.cells 90 [intsD M, rowS M.length mb])
  gn : gb < h.next
  rn : rb < h.next
  d1 : gb ≠ mb
  d2 : rb ≠ mb
  d3 : gb ∉ ks
  d4 : rb ∉ ks
  fr : h.Fr
theorem CloH.bump {M : List Int} {B : Nat → Nat → Int} {mb gb rb : Nat} {ks : List Nat} {l : List Mo} {h : Heap} (t : CloH M B mb gb rb ks l h) (z : Nat) : CloH M B mb gb rb ks l (h.bump z) :=
  ⟨t.mat.bump z, by simp [t.g], by simp [t.r], by have := t.gn; simp; omega, by have := t.rn; simp; omega, t.d1, t.d2, t.d3, t.d4, t.fr.bump z⟩
theorem CloH.new {M : List Int} {B : Nat → Nat → Int} {mb gb rb : Nat} {ks : List Nat} {l : List Mo} {h : Heap} (t : CloH M B mb gb rb ks l h) {q : Nat} (b : Option Blk) (h1 : ∀ p, p = mb ∨ p = gb ∨ p = rb ∨ p ∈ ks → p ≠ q) (h2 : q < h.next) : CloH M B mb gb rb ks l (h.set q b) := by
  have hm := h1 mb (.inl rfl)
  have hg := h1 gb (.inr (.inl rfl))
  have hr := h1 rb (.inr (.inr (.inl rfl)))
  exact ⟨⟨t.mat.len, by simp [hm, t.mat.top], t.mat.nd, fun q hq => by simpa using t.mat.lt q hq, fun j hj => by simp [h1 _ (.inr (.inr (.inr (List.getElem_mem hj)))), t.mat.row j hj], by simpa using t.mat.mlt⟩, by simp [hg, t.g], by simp [hr, t.r], by simpa using t.gn, by simpa using t.rn, t.d1, t.d2, t.d3, t.d4, t.fr.set _ h2⟩
theorem CloH.step {M : List Int} {A B : Nat → Nat → Int} {mb gb rb : Nat} {ks : List Nat} {l : List Mo} {h h' : Heap} (t : CloH M A mb gb rb ks l h) (m : Mat M.length B mb ks h') (o : Only ks h h') (f : h'.Fr) : CloH M B mb gb rb ks l h' :=
  ⟨m, by rw [o.get t.gn t.d3]; exact t.g, by rw [o.get t.rn t.d4]; exact t.r, Nat.lt_of_lt_of_le t.gn o.1, Nat.lt_of_lt_of_le t.rn o.1, t.d1, t.d2, t.d3, t.d4, f⟩
def C0 (M : List Int) (l : List Mo) (mb gb rb : Nat) (ks : List Nat) (c : Nat) (s : St) : Prop := ∃ (x : Env 41) (h : Heap) (i : Nat), s = ⟨x.l, h, []⟩ ∧ i + c = l.length ∧ x.v 1 = .ptr gb 0 ∧ x.v 2 = .ptr rb 0 ∧ x.v 14 = mosD l ∧ x.v 15 = D.int l.length ∧ x.v 16 = D.int i ∧ CloH M (initI M.length (l.take i)) mb gb rb ks l h
set_option maxHeartbeats 8000000 in
theorem low0_round (M : List Int) (l : List Mo) (hl : l.length ≤ 800) (hin : ∀ m ∈ l, m.fr < M.length ∧ m.to_ < M.length) (mb gb rb : Nat) (ks : List Nat) : ∀ f, 5 ≤ f → ∀ c s, C0 M l mb gb rb ks c s → Res (k52l0.ev ⟨pg, 41, none⟩ (rc pg f) s) (Rnd (C0 M l mb gb rb ks) (fun x s => x = .exit 0 ∧ C0 M l mb gb rb ks 0 s) c) := by
  rintro f hf c s ⟨x, h, i, rfl, hic, v1, v2, v14, v15, v16, hH⟩
  simp only [mosD] at v14
  by_cases hi : i < l.length
  · obtain ⟨m, hc⟩ : ∃ m, l[i] = m := ⟨_, rfl⟩
    obtain ⟨hf1, hf2⟩ := hin m (by rw [← hc]; exact List.getElem_mem hi)
    have w1 : IntKind.i64.wrap ((i : Int) + 1) = (i : Int) + 1 := wrap_i64 (by omega) (by omega)
    have hfr : ∀ j, h.raw (h.next + j) = none := fun j => hH.fr _ (by omega)
    have hsn : initI M.length (l.take (i + 1)) = lowI (initI M.length (l.take i)) m := by
      unfold initI
      rw [List.take_add_one, List.getElem?_eq_getElem hi, hc, List.foldl_append]; rfl
    have s70 : pg.sh 111 = true := rfl
    have hz5 : zerosD [.int .i64 0, .bool false, .int .i64 0, .int .i64 0, .int .i64 0] 5 1 = [D.int 0, D.bool false, D.int 0, D.int 0, D.int 0] := rfl
    obtain ⟨H, hHd⟩ : ∃ H, H = (((((h.bump 41).bump 41).set (h.next + 46) (some (.cells 148 [D.int 0, D.bool false, D.int 0, D.int 0, D.int 0]))).set (h.next + 46) (some (.cells 148 (moC m)))).bump 41) := ⟨_, rfl⟩
    have far : ∀ p, p = mb ∨ p = gb ∨ p = rb ∨ p ∈ ks → p ≠ h.next + 46 := by
      have := hH.mat.mlt; have := hH.gn; have := hH.rn
      intro p hp
      rcases hp with rfl | rfl | rfl | hp
      · omega
      · omega
      · omega
      · have := (hH.mat.lt p hp).1; omega
    have hHH : CloH M (initI M.length (l.take i)) mb gb rb ks l H := by
      rw [hHd]
      exact CloH.bump (CloH.new (CloH.new ((hH.bump _).bump _) _ far (by simp)) _ far (by simp)) _
    have hr := hHH.r
    have hH46 : H.get (h.next + 46) = some (.cells 148 (moC m)) := by rw [hHd]; simp
    obtain ⟨h', e1, m1, o1, f1⟩ := lower_sh hHH.mat hHH.fr (intsD M) rfl hf1 hf2 m.mo (f := f) (by omega)
    have c70 := call_sh (pg := pg) s70 e1
    simp only [intsD, rowS] at c70 hr
    simp only [moC] at hHd hH46
    simp [k52l0, v1, v2, v14, v15, v16, hi, hc, moD, moC, D.cells, D.one, hfr, Nat.add_assoc, ← hHd, hr, hH46, c70, w1]
    refine ⟨c - 1, by omega, _, _, i + 1, rfl, by omega, by simp [v1], by simp [v2], by simp [v14, mosD], by simp [v15], by simp, ?_⟩
    rw [hsn]
    exact (hHH.step m1 o1 f1).bump _
  · simp [k52l0, v15, v16, hi]
    exact ⟨_, _, i, rfl, by omega, by simp [v1], by simp [v2], by simp [v14, mosD], by simp [v15], by simp [v16], hH.bump _⟩
def C1 (M : List Int) (l : List Mo) (mb gb rb : Nat) (ks : List Nat) (c : Nat) (s : St) : Prop := ∃ (x : Env 41) (h : Heap) (i : Nat), s = ⟨x.l, h, []⟩ ∧ i + c = M.length ∧ x.v 2 = .ptr rb 0 ∧ x.v 32 = D.int M.length ∧ x.v 33 = D.int i ∧ CloH M (closI M.length (initI M.length l) i) mb gb rb ks l h
def Tame (n : Nat) (A : Nat → Nat → Int) : Prop := ∀ k, k < n → ∀ I, I < n → stageI n k (closI n A k) I I k ≠ 1000000000 → ∀ J, J ≤ n → ∀ a b, -1000000000000 ≤ rowI k I (stageI n k (closI n A k) I) J a b ∧ rowI k I (stageI n k (closI n A k) I) J a b ≤ 1000000000000
set_option maxHeartbeats 8000000 in
theorem thr1_round (M : List Int) (l : List Mo) (hn : M.length ≤ 64) (mb gb rb : Nat) (ks : List Nat) (ht : Tame M.length (initI M.length l)) : ∀ f, 300 ≤ f → ∀ c s, C1 M l mb gb rb ks c s → Res (k52l1.ev ⟨pg, 41, none⟩ (rc pg f) s) (Rnd (C1 M l mb gb rb ks) (fun x s => x = .exit 2 ∧ C1 M l mb gb rb ks 0 s) c) := by
  rintro f hf c s ⟨x, h, i, rfl, hic, v2, v32, v33, hH⟩
  by_cases hi : i < M.length
  · have w1 : IntKind.i64.wrap ((i : Int) + 1) = (i : Int) + 1 := wrap_i64 (by omega) (by omega)
    have s71 : pg.sh 112 = true := rfl
    have hHH := (((hH.bump 41).bump 41).bump 41)
    have hr := hH.r
    obtain ⟨h', e1, m1, o1, f1⟩ := thr_sh rfl hn hHH.mat hHH.fr hi (ht i hi) (f := f) (by omega)
    have c71 := call_sh (pg := pg) s71 e1
    simp only [intsD, rowS] at c71 hr
    simp [k52l1, v2, v32, v33, hi, D.cells, D.one, hr, c71, w1]
    exact ⟨c - 1, by omega, _, _, i + 1, rfl, by omega, by simp [v2], by simp [v32], by simp, (hHH.step m1 o1 f1).bump _⟩
  · simp [k52l1, v32, v33, hi]
    exact ⟨_, _, i, rfl, by omega, by simp [v2], by simp [v32], by simp [v33], hH.bump _⟩
end Go.Proofs.YtgbkdjlekfjkfaaGreatDoor
/- The closure of a graph, by the program: the answer. -/
namespace Go.Proofs.YtgbkdjlekfjkfaaGreatDoor
open Go Go.Em Go.Em.Net
set_option maxRecDepth 100000
def rowsD (n : Nat) (A : Nat → Nat → Int) : D := .sl false ((List.range n).map fun i => .sl false (yCs n (A i)))
theorem yCs_canon (n : Nat) (y : Nat → Int) : D.canonL (yCs n y) = true := canonL_map _ (fun _ => rfl) _
theorem frz_row {h : Heap} {n k d : Nat} {y : Nat → Int} (hg : h.get k = some (.cells 3 (yCs n y))) : frz h (d + 2) (rowS n k) = some (.sl false (yCs n y), [k]) := by
  unfold rowS
  rw [frz_slr, hg, frzS_cells]
  have hle : 0 + n * 1 ≤ (yCs n y).length ∧ 0 < 1 := by rw [yCs_len]; omega
  have htk : ((yCs n y).drop 0).take (n * 1) = yCs n y := List.take_of_length_le (by rw [List.drop_zero, yCs_len]; omega)
  rw [if_pos hle, htk, each_canon h d _ (yCs_canon n y)]
  simp only [Option.map_some]
  rw [chunk_one n _ (yCs_len n y)]
theorem frz_rows {h : Heap} {n d : Nat} : ∀ (ks : List Nat) (A : Nat → Nat → Int), (∀ j, ∀ hj : j < ks.length, h.get ks[j] = some (.cells 3 (yCs n (A j)))) → each (frz h (d + 2)) (ks.map (rowS n)) = some ((List.range ks.length).map fun i => .sl false (yCs n (A i)), ks)
  | [], _, _ => by simp
  | k :: ks, A, hg => by
    have h0 : h.get k = some (.cells 3 (yCs n (A 0))) := hg 0 (by simp)
    have ih := frz_rows (d := d) ks (fun i => A (i + 1)) fun j hj => hg (j + 1) (by simp; omega)
    rw [List.map_cons, each_cons, frz_row h0, ih, eachK_some, List.length_cons, List.range_succ_eq_map, List.map_cons, List.map_map]
    rfl
theorem frz_mat {h : Heap} {n d mb : Nat} {ks : List Nat} {A : Nat → Nat → Int} (m : Mat n A mb ks h) : frz h (d + 3) (rowS n mb) = some (rowsD n A, mb :: ks) := by
  have hl := m.len
  rw [show rowS n mb = D.slr mb 0 n 1 (some n) from rfl, frz_slr, m.top, frzS_cells]
  have hle : 0 + n * 1 ≤ (ks.map (rowS n)).length ∧ 0 < 1 := by simp; omega
  have htk : ((ks.map (rowS n)).drop 0).take (n * 1) = ks.map (rowS n) := List.take_of_length_le (by simp; omega)
  rw [if_pos hle, htk, frz_rows ks A m.row]
  simp only [Option.map_some]
  rw [chunk_one n _ (by simp [hl]), hl]
  rfl
set_option maxHeartbeats 8000000 in
theorem clo_bad (M : List Int) (l : List Mo) (hn : M.length ≤ 64) (hl : l.length ≤ 800) (hin : ∀ m ∈ l, m.fr < M.length ∧ m.to_ < M.length ∧ -100000 ≤ m.mo ∧ m.mo ≤ 100000) (hc : conF M l = true) {f : Nat} (hf : 1100 ≤ f) : pureCall (rc pg f) 52 [grD M l] = some (.ret (.tup [.agg [.sl false [], .sl false []], D.bool false])) := by
  obtain ⟨m, rfl, e⟩ := body (pg := pg) (f := 52) (args := [grD M l]) (show 0 < f by omega) rfl rfl
  rw [e]
  have c68 := fun h => call_of (h := h) (pg := pg) (f := 109) rfl (gr_canon M l) (@con_run M l hn hl hin m (by omega))
  rw [hc] at c68
  simp only [grD, intsD, mosD] at c68
  simp [k52, Env.v_ini, grD, intsD, mosD, D.cells, D.one, c68]
set_option maxHeartbeats 8000000 in
theorem clo_run (M : List Int) (l : List Mo) (hn : M.length ≤ 64) (hl : l.length ≤ 800) (hin : ∀ m ∈ l, m.fr < M.length ∧ m.to_ < M.length ∧ -100000 ≤ m.mo ∧ m.mo ≤ 100000) (hc : conF M l = false) (ht : Tame M.length (initI M.length l)) {f : Nat} (hf : 1100 ≤ f) : pureCall (rc pg f) 52 [grD M l] = some (.ret (.tup [.agg [intsD M, rowsD M.length (closI M.length (initI M.length l) M.length)], D.bool true])) := by
  obtain ⟨m, rfl, e⟩ := body (pg := pg) (f := 52) (args := [grD M l]) (show 0 < f by omega) rfl rfl
  rw [e]
  have c68 := fun h => call_of (h := h) (pg := pg) (f := 109) rfl (gr_canon M l) (@con_run M l hn hl hin m (by omega))
  rw [hc] at c68
  have s69 : pg.sh 110 = true := rfl
  obtain ⟨H, hH⟩ : ∃ H, H = ((((Heap.empty.bump 41).set 1 (some (.cells 65 [intsD M, mosD l]))).set 2 (some (.cells 90 nil2))).bump 41).bump 41 := ⟨_, rfl⟩
  have hHf : H.Fr := by
    rw [hH]
    repeat' first | exact Heap.Fr.empty | apply Heap.Fr.bump | apply Heap.Fr.set
    all_goals first | omega | (simp <;> omega)
  have hHn : H.next = 123 := by rw [hH]; simp
  have hH1 : H.get 1 = some (.cells 65 [intsD M, mosD l]) := by rw [hH]; simp
  have hH2 : H.get 2 = some (.cells 90 nil2) := by rw [hH]; simp
  obtain ⟨mb, ks, h1, e1, m1, b1, b2, f1, u1, u2⟩ := nd_sh M hn hHf (f := m) (by omega)
  have c69 := call_sh (pg := pg) s69 e1
  rw [hHn] at b1 b2 u1 u2
  have g1 : h1.get 1 = some (.cells 65 [intsD M, mosD l]) := by unfold Heap.get at hH1 ⊢; rw [u2 1 (by omega)]; exact hH1
  have g2 : h1.get 2 = some (.cells 90 nil2) := by unfold Heap.get at hH2 ⊢; rw [u2 2 (by omega)]; exact hH2
  have o1 : ∀ a b c d (e : Option Nat), D.one (.slr a b c d e) = true := fun _ _ _ _ _ => rfl
  have m1 := m1.congr (B := farN M.length) fun a b ha _ => by simp [far0, farN, ha]
  have hC : CloH M (farN M.length) mb 1 2 ks l (h1.set 2 (some (.cells 90 [intsD M, rowS M.length mb]))) := by
    refine ⟨⟨m1.len, by simp [show mb ≠ 2 by omega, m1.top], m1.nd, fun q hq => by simpa using m1.lt q hq, fun j hj => ?_, by simpa using m1.mlt⟩, by simp [g1], by simp, by simp; omega, by simp; omega, by omega, by omega, fun hq => by have := b2 1 hq; omega, fun hq => by have := b2 2 hq; omega, f1.set _ (by omega)⟩
    have := b2 _ (List.getElem_mem hj)
    simp [show ks[j] ≠ 2 by omega, m1.row j hj]
  simp only [grD, intsD, mosD, nil2, rowS] at c68 hH hH1 g1 g2 c69
  simp [k52, Env.v_ini, grD, intsD, mosD, D.cells, D.one, c68, ← hH, hH1, c69, g1, g2, o1, ev_loop]
  refine Res.endsAfter (lp_rule 5 (C0 M l mb 1 2 ks) _ (low0_round M l hl (fun m h => ⟨(hin m h).1, (hin m h).2.1⟩) mb 1 2 ks) l.length m _ (by omega) ⟨_, _, 0, rfl, by omega, by simp, by simp, by simp [mosD], by simp, by simp, hC.bump _⟩) ?_
  rintro x s ⟨rfl, x, h, i, rfl, hi, v1, v2, v14, v15, v16, hT⟩
  have hil : i = l.length := by omega
  subst hil
  rw [List.take_length] at hT
  have hr := hT.r
  simp only [intsD, rowS] at hr
  simp [v2, hr, D.cells, ev_loop]
  refine Res.endsAfter (lp_rule 300 (C1 M l mb 1 2 ks) _ (thr1_round M l hn mb 1 2 ks ht) M.length m _ (by omega) ⟨_, _, 0, rfl, by omega, by simp [v2], by simp, by simp, hT.bump _⟩) ?_
  rintro x s ⟨rfl, x, h, i, rfl, hi, v2, v32, v33, hT⟩
  have hil : i = M.length := by omega
  subst hil
  have hr := hT.r
  have n2 : (mb = 2) = False := by simp; exact Ne.symm hT.d2
  have hmt := hT.mat
  have hM' : Mat M.length (closI M.length (initI M.length l) M.length) mb ks ((h.bump 41).set 2 (some (.cells 90 [intsD M, rowS M.length mb]))) := by
    refine ⟨hmt.len, by simp [n2, hmt.top], hmt.nd, fun q hq => by have := hmt.lt q hq; simp; omega, fun j hj => ?_, by have := hmt.mlt; simp; omega⟩
    have : ks[j] ≠ 2 := fun e => hT.d4 (by rw [← e]; exact List.getElem_mem hj)
    simp [this, hmt.row j hj]
  have hz := frz_mat (d := 19) hM'
  simp only [intsD, rowS, frz_slr] at hr hz
  have hgm : ((h.bump 41).set 2 (some (.cells 90 [D.sl false (M.map D.int), D.slr mb 0 M.length 1 (some M.length)]))).get mb = h.get mb := by simp [n2]
  rw [hgm] at hz
  simp [v2, hr, D.cells, D.one, n2, hz, rowsD]
end Go.Proofs.YtgbkdjlekfjkfaaGreatDoor
/- The program's numbers of a net are those of the mathematical one, no bound being 1000000000. -/
namespace Go.Proofs.YtgbkdjlekfjkfaaGreatDoor
open Go Go.Em Go.Em.Net
def enc (o : Option Int) : Int := o.getD 1000000000
def encM (N : Mx) : Nat → Nat → Int := fun a b => enc (N a b)
def Bt (N : Mx) : Prop := ∀ a b z, N a b = some z → -100000000 ≤ z ∧ z ≤ 100000000
theorem enc_far {N : Mx} (h : Bt N) {a b : Nat} : enc (N a b) = 1000000000 ↔ N a b = none := by
  cases e : N a b with
  | none => simp [enc]
  | some z => have := h a b z e; simp [enc]; omega
theorem st_enc {N : Mx} (h : Bt N) {k i j : Nat} {c : Int} (hc : N i k = some c) : stI k i (encM N) j = encM (setM N i j (comb N k i j)) := by
  unfold stI
  by_cases hf : encM N k j = 1000000000
  · have hn : N k j = none := (enc_far h).1 hf
    rw [if_pos hf]
    have : comb N k i j = N i j := by unfold comb; rw [hc, hn]
    rw [this]
    funext a b
    unfold encM setM
    split
    · rename_i e; rw [e.1, e.2]
    · rfl
  · obtain ⟨d, hd⟩ : ∃ d, N k j = some d := by
      cases e : N k j with
      | none => exact absurd (by simp [encM, enc, e]) hf
      | some d => exact ⟨d, rfl⟩
    rw [if_neg hf]
    have b1 := h i k c hc
    have b2 := h k j d hd
    funext a b
    unfold updA encM setM
    split
    · unfold comb
      rw [hc, hd]
      cases e : N i j with
      | none => simp [enc]; omega
      | some z => simp [enc]
    · rfl
theorem rowI_enc {M : Mx} {k i : Nat} {c : Int} (hk : M k k = some 0) (hc : M i k = some c) (h1 : Bt M) (h2 : ∀ b z, comb M k i b = some z → -100000000 ≤ z ∧ z ≤ 100000000) : ∀ J, rowI k i (encM M) J = encM (rowT k i M J) ∧ Bt (rowT k i M J)
  | 0 => ⟨rfl, h1⟩
  | J + 1 => by
    obtain ⟨e, hb⟩ := rowI_enc hk hc h1 h2 J
    have hN : ∃ c', rowT k i M J i k = some c' := by
      rw [rowT_eq hk]
      show ∃ c', (if i = i ∧ k < J then comb M k i k else M i k) = some c'
      rw [comb_col hk, hc]
      exact ⟨c, by split <;> rfl⟩
    obtain ⟨c', hc'⟩ := hN
    refine ⟨?_, fun a b z hz => ?_⟩
    · rw [rowI, e, st_enc hb hc']; rfl
    · rw [rowT_eq hk] at hz
      simp only at hz
      split at hz
      · exact h2 b z hz
      · exact h1 a b z hz
theorem stageI_enc {n k : Nat} {M : Mx} (hk : M k k = some 0) (ho : Out n M) (hkn : k < n) (h1 : Bt M) (h2 : Bt (comb M k)) : ∀ I, stageI n k (encM M) I = encM (stageT n k M I) ∧ Bt (stageT n k M I) ∧ (stageT n k M I) k k = some 0 ∧ Out n (stageT n k M I) ∧ ∀ c, stageT n k M I I k = some c → ∀ b z, comb (stageT n k M I) k I b = some z → -100000000 ≤ z ∧ z ≤ 100000000 := by
  have facts : ∀ I, Bt (stageT n k M I) ∧ (stageT n k M I) k k = some 0 ∧ Out n (stageT n k M I) ∧ ∀ c, stageT n k M I I k = some c → ∀ b z, comb (stageT n k M I) k I b = some z → -100000000 ≤ z ∧ z ≤ 100000000 := by
    intro I
    rw [stageT_eq hk ho hkn I]
    refine ⟨fun a b z hz => ?_, ?_, fun a b hab => ?_, fun c _ b z hz => ?_⟩
    · simp only at hz
      split at hz
      · exact h2 a b z hz
      · exact h1 a b z hz
    · show (if k < I then comb M k k k else M k k) = some 0
      rw [comb_row hk, hk]; split <;> rfl
    · show (if a < I then comb M k a b else M a b) = none
      rw [ho a b hab, ho.comb hkn a b hab]; split <;> rfl
    · have : comb (fun a b => if a < I then comb M k a b else M a b) k I b = comb M k I b := by
        show (match (if I < I then comb M k I k else M I k), (if k < I then comb M k k b else M k b) with
          | some a, some b' => (match (if I < I then comb M k I b else M I b) with | some c => some (min c (a + b')) | none => some (a + b'))
          | _, _ => (if I < I then comb M k I b else M I b)) = _
        have e2 : (if k < I then comb M k k b else M k b) = M k b := by rw [comb_row hk]; split <;> rfl
        rw [e2, if_neg (Nat.lt_irrefl I), if_neg (Nat.lt_irrefl I)]
        rfl
      rw [this] at hz
      exact h2 I b z hz
  intro I
  refine ⟨?_, facts I⟩
  induction I with
  | zero => rfl
  | succ I ih =>
    obtain ⟨b1, b2, b3, b4⟩ := facts I
    rw [stageI, ih]
    by_cases hf : encM (stageT n k M I) I k = 1000000000
    · have hn : stageT n k M I I k = none := (enc_far b1).1 hf
      rw [if_pos hf, stageT, row_full b2 b3 hkn]
      congr 1
      funext a b
      by_cases ha : a = I
      · subst ha
        have : comb (stageT n k M a) k a b = stageT n k M a a b := by unfold comb; rw [hn]
        simp [this]
      · simp [ha]
    · rw [if_neg hf]
      cases hc : stageT n k M I I k with
      | none => exact absurd ((enc_far b1).2 hc) hf
      | some c => exact (rowI_enc b2 hc b1 (b4 c hc) n).1
theorem closI_enc {n : Nat} {E : Mx} (ho : Out n E) (hd : ∀ k, k ≤ n → ∀ i, i < n → fw E k i i = some 0) (hb : ∀ k, k ≤ n → Bt (fw E k)) : ∀ k, k ≤ n → closI n (encM E) k = encM (fw E k)
  | 0, _ => rfl
  | k + 1, hk => by
    rw [closI, closI_enc ho hd hb k (by omega), (stageI_enc (hd k (by omega) k (by omega)) (ho.fw k (by omega)) (by omega) (hb k (by omega)) (hb (k + 1) hk) n).1, stage_full (hd k (by omega) k (by omega)) (ho.fw k (by omega)) (by omega)]
    rfl
theorem enc_bd {N : Mx} (h : Bt N) (a b : Nat) : -1000000000000 ≤ encM N a b ∧ encM N a b ≤ 1000000000000 := by
  unfold encM
  cases e : N a b with
  | none => simp [enc]
  | some z => have := h a b z e; simp [enc]; omega
theorem tame_enc {n : Nat} {E : Mx} (ho : Out n E) (hd : ∀ k, k ≤ n → ∀ i, i < n → fw E k i i = some 0) (hb : ∀ k, k ≤ n → Bt (fw E k)) : Tame n (encM E) := by
  intro k hk I hI
  obtain ⟨e, b1, b2, b3, b4⟩ := stageI_enc (hd k (by omega) k hk) (ho.fw k (by omega)) hk (hb k (by omega)) (hb (k + 1) (by omega)) I
  rw [closI_enc ho hd hb k (by omega), e]
  intro hne J _ a b
  cases hc : stageT n k (fw E k) I I k with
  | none => exact absurd ((enc_far b1).2 hc) hne
  | some c =>
    obtain ⟨e2, b5⟩ := rowI_enc b2 hc b1 (b4 c hc) J
    rw [e2]
    exact enc_bd b5 a b
end Go.Proofs.YtgbkdjlekfjkfaaGreatDoor
/- The net of the moves along claims; when claims contradict. -/
namespace Go.Proofs.YtgbkdjlekfjkfaaGreatDoor
open Go Go.Em Go.Em.Net
def E0 (n : Nat) : Mx := fun a b => if b = a ∧ a < n then some 0 else none
def lowV (o : Option Int) (v : Int) : Option Int := match o with
  | none => some v
  | some z => some (min z v)
def lowM (N : Mx) (m : Mo) : Mx := setM N m.fr m.to_ (lowV (N m.fr m.to_) m.mo)
def EF (n : Nat) (l : List Mo) : Mx := l.foldl lowM (E0 n)
structure Kn (n : Nat) (N : Mx) (l : List Mo) : Prop where
  he : ∀ i j c, N i j = some c → (i = j ∧ c = 0) ∨ (i, j, c) ∈ mvs l
  hm : ∀ m ∈ mvs l, ∃ c, N m.1 m.2.1 = some c ∧ c ≤ m.2.2
  out : Out n N
  diag : ∀ i, i < n → N i i = some 0
theorem Kn.low {n : Nat} {N : Mx} {l : List Mo} (k : Kn n N l) {m : Mo} (h1 : m.fr < n) (h2 : m.to_ < n) (h3 : m.fr ≠ m.to_) : Kn n (lowM N m) (l ++ [m]) := by
  have hmv : mvs (l ++ [m]) = mvs l ++ [(m.fr, m.to_, m.mo)] := by unfold mvs; simp
  have hv : ∃ z, lowV (N m.fr m.to_) m.mo = some z ∧ z ≤ m.mo := by
    unfold lowV; split
    · exact ⟨_, rfl, Int.le_refl _⟩
    · exact ⟨_, rfl, by omega⟩
  refine ⟨fun i j c hc => ?_, fun x hx => ?_, fun a b hab => ?_, fun i hi => ?_⟩
  · unfold lowM setM at hc
    rw [hmv]
    split at hc
    · rename_i e
      unfold lowV at hc
      split at hc
      · obtain rfl := Option.some.inj hc
        exact .inr (by simp [e.1, e.2])
      · rename_i z hz
        have hcz := Option.some.inj hc
        by_cases hmin : z ≤ m.mo
        · have : c = z := by omega
          rcases k.he m.fr m.to_ z hz with ⟨e1, _⟩ | e1
          · exact absurd e1 h3
          · exact .inr (by rw [e.1, e.2, this]; exact List.mem_append_left _ e1)
        · have : c = m.mo := by omega
          exact .inr (by simp [e.1, e.2, this])
    · rcases k.he i j c hc with e | e
      · exact .inl e
      · exact .inr (List.mem_append_left _ e)
  · rw [hmv] at hx
    rcases List.mem_append.1 hx with hx | hx
    · obtain ⟨c, hc, hcl⟩ := k.hm x hx
      unfold lowM setM
      split
      · rename_i e
        rw [e.1, e.2] at hc
        unfold lowV
        rw [hc]
        exact ⟨_, rfl, by omega⟩
      · exact ⟨c, hc, hcl⟩
    · obtain rfl : x = (m.fr, m.to_, m.mo) := by simpa using hx
      obtain ⟨z, hz, hzl⟩ := hv
      exact ⟨z, by unfold lowM setM; simp [hz], hzl⟩
  · unfold lowM setM
    rw [if_neg (fun e => hab (by rw [e.1, e.2]; exact ⟨h1, h2⟩))]
    exact k.out a b hab
  · unfold lowM setM
    rw [if_neg (fun e => h3 (by rw [← e.1, ← e.2]))]
    exact k.diag i hi
theorem Kn.fold {n : Nat} : ∀ (l : List Mo) {N : Mx} {l0 : List Mo}, Kn n N l0 → (∀ m ∈ l, m.fr < n ∧ m.to_ < n ∧ m.fr ≠ m.to_) → Kn n (l.foldl lowM N) (l0 ++ l)
  | [], _, l0, k, _ => by rw [List.append_nil]; exact k
  | m :: l, N, l0, k, h => by
    obtain ⟨h1, h2, h3⟩ := h m List.mem_cons_self
    have := Kn.fold l (k.low h1 h2 h3) fun x hx => h x (List.mem_cons_of_mem _ hx)
    rwa [List.append_assoc] at this
theorem kn_EF {n : Nat} {l : List Mo} (h : ∀ m ∈ l, m.fr < n ∧ m.to_ < n ∧ m.fr ≠ m.to_) : Kn n (EF n l) l := by
  have k0 : Kn n (E0 n) [] := by
    refine ⟨fun i j c hc => ?_, fun m hm => absurd hm List.not_mem_nil, fun a b hab => ?_, fun i hi => by simp [E0, hi]⟩
    · unfold E0 at hc
      split at hc
      · rename_i e; exact .inl ⟨e.1.symm, (Option.some.inj hc).symm⟩
      · cases hc
    · unfold E0; rw [if_neg (fun e => hab ⟨e.2, by rw [e.1]; exact e.2⟩)]
  exact Kn.fold l k0 h
theorem low_enc {N : Mx} (h : Bt N) {m : Mo} (h1 : -100000 ≤ m.mo) (h2 : m.mo ≤ 100000) : lowI (encM N) m = encM (lowM N m) ∧ Bt (lowM N m) := by
  constructor
  · funext a b
    unfold lowI updA encM lowM setM
    split
    · unfold lowV
      cases e : N m.fr m.to_ with
      | none => simp [enc]; omega
      | some z => simp [enc]
    · rfl
  · intro a b z hz
    unfold lowM setM at hz
    split at hz
    · unfold lowV at hz
      split at hz
      · have := Option.some.inj hz; omega
      · rename_i y hy
        have := Option.some.inj hz
        have := h _ _ y hy
        omega
    · exact h a b z hz
theorem init_enc : ∀ (l : List Mo) (N : Mx), Bt N → (∀ m ∈ l, -100000 ≤ m.mo ∧ m.mo ≤ 100000) → l.foldl lowI (encM N) = encM (l.foldl lowM N)
  | [], _, _, _ => rfl
  | m :: l, N, h, hl => by
    obtain ⟨h1, h2⟩ := hl m List.mem_cons_self
    obtain ⟨e, b⟩ := low_enc h h1 h2
    rw [List.foldl_cons, List.foldl_cons, e]
    exact init_enc l _ b fun x hx => hl x (List.mem_cons_of_mem _ hx)
theorem initI_enc (n : Nat) (l : List Mo) (hl : ∀ m ∈ l, -100000 ≤ m.mo ∧ m.mo ≤ 100000) : initI n l = encM (EF n l) := by
  have h0 : farN n = encM (E0 n) := by
    funext a b
    unfold farN encM E0 enc
    split <;> rfl
  unfold initI EF
  rw [h0]
  exact init_enc l _ (fun a b z hz => by
    unfold E0 at hz
    split at hz
    · have := Option.some.inj hz; omega
    · cases hz) hl
structure Good (n : Nat) (l : List Mo) : Prop where
  hin : ∀ m ∈ l, m.fr < n ∧ m.to_ < n ∧ m.fr ≠ m.to_
  bd : ∀ m ∈ l, -100000 ≤ m.mo ∧ m.mo ≤ 100000
  sym : ∀ m ∈ l, ∃ m' ∈ l, m'.fr = m.to_ ∧ m'.to_ = m.fr
theorem Good.symE {n : Nat} {l : List Mo} (g : Good n l) (i j : Nat) (h : EF n l i j ≠ none) : EF n l j i ≠ none := by
  have k := kn_EF g.hin
  obtain ⟨c, hc⟩ := Option.ne_none_iff_exists'.1 h
  rcases k.he i j c hc with ⟨rfl, _⟩ | hm
  · exact h
  · obtain ⟨m, hm1, hm2⟩ := List.mem_map.1 hm
    obtain ⟨m', h1, h2, h3⟩ := g.sym m hm1
    obtain ⟨c', hc', _⟩ := k.hm (m'.fr, m'.to_, m'.mo) (List.mem_map.2 ⟨m', h1, rfl⟩)
    have e1 : m.fr = i := by rw [← (Prod.mk.inj hm2).1]
    have e2 : m.to_ = j := by rw [← (Prod.mk.inj (Prod.mk.inj hm2).2).1]
    simp only [h2, h3, e1, e2] at hc'
    rw [hc']; simp
theorem Good.calm {n : Nat} {l : List Mo} (g : Good n l) (hn : n ≤ 64) (hd : ∀ k, k ≤ n → ∀ i, i < n → fw (EF n l) k i i = some 0) : ∀ k, k ≤ n → Bt (fw (EF n l) k) := by
  have k := kn_EF g.hin
  intro q hq a b z hz
  have hB : ∀ i j c, EF n l i j = some c → -100000 ≤ c ∧ c ≤ 100000 := by
    intro i j c hc
    rcases k.he i j c hc with ⟨_, rfl⟩ | hm
    · omega
    · obtain ⟨m, hm1, hm2⟩ := List.mem_map.1 hm
      have := g.bd m hm1
      have e : m.mo = c := (Prod.mk.inj (Prod.mk.inj hm2).2).2
      omega
  have := fw_bounds (B := 100000) (by omega) hB g.symE k.out q hq (fun l hl i hi => hd l (by omega) i hi) hz
  omega
theorem Good.con {M : List Int} {l : List Mo} (g : Good M.length l) : conF M l = false ↔ ∀ k, k ≤ M.length → ∀ i, i < M.length → fw (EF M.length l) k i i = some 0 := by
  have k := kn_EF g.hin
  have hin : ∀ m ∈ mvs l, m.1 < M.length ∧ m.2.1 < M.length := fun m hm => by
    obtain ⟨x, hx, rfl⟩ := List.mem_map.1 hm
    exact ⟨(g.hin x hx).1, (g.hin x hx).2.1⟩
  constructor
  · intro h q _ i hi
    unfold conF at h
    rw [decide_eq_true (show 0 < M.length by omega), Bool.true_and] at h
    exact diag_of_rest k.diag k.he h q hi
  · intro hd
    unfold conF
    by_cases h0 : 0 < M.length
    · have hr : allChg (mvs l) M.length z0 = false := rest_of_diag hin k.he k.hm h0 hd
      rw [hr, Bool.and_false]
    · rw [decide_eq_false h0, Bool.false_and]
end Go.Proofs.YtgbkdjlekfjkfaaGreatDoor
/- The closure of claims, by the program. -/
namespace Go.Proofs.YtgbkdjlekfjkfaaGreatDoor
open Go Go.Em Go.Em.Net
set_option maxRecDepth 100000
theorem movs_mem {M : List Int} : ∀ {l : List Clm} {i : Nat} {m : Mo}, m ∈ movsF M i l → ∃ c ∈ l, ∃ j, m ∈ movF M j c ∧ ∀ m' ∈ movF M j c, m' ∈ movsF M i l
  | [], _, _, h => absurd h List.not_mem_nil
  | a :: l, i, m, h => by
    rcases List.mem_append.1 h with h | h
    · exact ⟨a, List.mem_cons_self, i, h, fun m' hm => List.mem_append_left _ hm⟩
    · obtain ⟨c, hc, j, h1, h2⟩ := movs_mem h
      exact ⟨c, List.mem_cons_of_mem _ hc, j, h1, fun m' hm => List.mem_append_right _ (h2 m' hm)⟩
theorem ok_differ {c : Clm} (h : okF c = true) : c.a ≠ c.b := by
  unfold okF at h
  simp only [Bool.and_eq_true, bne_iff_ne] at h
  exact h.1.1.1.2
theorem good_movs {l : List Clm} (h0 : chkF l = 0) : Good (marksF l).length (movsF (marksF l) 0 l) := by
  obtain ⟨hl1, hl2, hl3⟩ := chk_ok h0
  have pl : ∀ c ∈ l, placeF (marksF l) c.a < (marksF l).length ∧ placeF (marksF l) c.b < (marksF l).length ∧ placeF (marksF l) c.a ≠ placeF (marksF l) c.b := by
    intro c hc
    obtain ⟨a1, a2⟩ := place_at ((marks_mem l c.a).2 ⟨c, hc, .inl rfl⟩)
    obtain ⟨b1, b2⟩ := place_at ((marks_mem l c.b).2 ⟨c, hc, .inr rfl⟩)
    refine ⟨a1, b1, fun e => ok_differ (hl2 c hc) ?_⟩
    rw [← a2, ← b2]
    simp only [e]
  refine ⟨fun m hm => ?_, fun m hm => ?_, fun m hm => ?_⟩
  · obtain ⟨c, hc, j, h1, _⟩ := movs_mem hm
    obtain ⟨p1, p2, p3⟩ := pl c hc
    rcases (by simpa [movF] using h1 : m = _ ∨ m = _) with rfl | rfl
    · exact ⟨p1, p2, p3⟩
    · exact ⟨p2, p1, Ne.symm p3⟩
  · obtain ⟨c, hc, j, h1, _⟩ := movs_mem hm
    have := ok_years (hl2 c hc)
    rcases (by simpa [movF] using h1 : m = _ ∨ m = _) with rfl | rfl
    · simp only; omega
    · simp only; omega
  · obtain ⟨c, hc, j, h1, h2⟩ := movs_mem hm
    rcases (by simpa [movF] using h1 : m = _ ∨ m = _) with rfl | rfl
    · exact ⟨_, h2 ⟨j, true, placeF (marksF l) c.b, placeF (marksF l) c.a, -c.lo⟩ (by simp [movF]), rfl, rfl⟩
    · exact ⟨_, h2 ⟨j, false, placeF (marksF l) c.a, placeF (marksF l) c.b, c.hi⟩ (by simp [movF]), rfl, rfl⟩
def netF (l : List Clm) : Mx := EF (marksF l).length (movsF (marksF l) 0 l)
def cloF (l : List Clm) : Mx := fw (netF l) (marksF l).length
def badF (l : List Clm) : Bool := conF (marksF l) (movsF (marksF l) 0 l)
theorem bad_iff {l : List Clm} (h0 : chkF l = 0) : badF l = false ↔ ∀ k, k ≤ (marksF l).length → ∀ i, i < (marksF l).length → fw (netF l) k i i = some 0 := (good_movs h0).con
theorem closure_all {l : List Clm} (h0 : chkF l = 0) {f : Nat} (hf : 1100 ≤ f) : pureCall (rc pg f) 52 [grD (marksF l) (movsF (marksF l) 0 l)] = some (.ret (.tup (bif badF l then [.agg [.sl false [], .sl false []], D.bool false] else [.agg [intsD (marksF l), rowsD (marksF l).length (encM (cloF l))], D.bool true]))) := by
  obtain ⟨hl1, hl2, hl3⟩ := chk_ok h0
  have g := good_movs h0
  have hlen : (movsF (marksF l) 0 l).length ≤ 800 := by rw [movs_len]; omega
  have hin : ∀ m ∈ movsF (marksF l) 0 l, m.fr < (marksF l).length ∧ m.to_ < (marksF l).length ∧ -100000 ≤ m.mo ∧ m.mo ≤ 100000 := fun m hm => ⟨(g.hin m hm).1, (g.hin m hm).2.1, (g.bd m hm).1, (g.bd m hm).2⟩
  cases hb : badF l with
  | true => exact clo_bad (marksF l) _ hl3 hlen hin hb hf
  | false =>
    have hd := (bad_iff h0).1 hb
    have k := kn_EF g.hin
    have hbt := g.calm hl3 hd
    have ht : Tame (marksF l).length (initI (marksF l).length (movsF (marksF l) 0 l)) := by
      rw [initI_enc _ _ g.bd]; exact tame_enc k.out hd hbt
    have := clo_run (marksF l) _ hl3 hlen hin hb ht hf
    rw [initI_enc _ _ g.bd, closI_enc k.out hd hbt _ (Nat.le_refl _)] at this
    exact this
end Go.Proofs.YtgbkdjlekfjkfaaGreatDoor
