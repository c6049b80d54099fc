/- One times a number, by package math/bits. -/
import Derived.Test.YtppfjkebamegnaaDoorKp1
import Derived.Test.YtppfjkebamegnaaDoorEmNet
import Derived.Test.YtppfjkebamegnaaDoorWo1
import Derived.Test.YtppfjkebamegnaaDoorKp1
namespace Go.Proofs.YtppfjkebamegnaaDoor
open Go Go.Em
set_option maxRecDepth 100000
noncomputable def mulOk (m n : Nat) : Bool := match pureCall (rc pg (m + 3)) 124 [.val (.int .u64 1), .val (.int .u64 n)] with
  | some (.ret (.tup [.val (.int .u64 a), .val (.int .u64 b)])) => a == 0 && b == n
  | _ => false
theorem mul_tab (m : Nat) : (List.range 65).all (mulOk m) = true := by kernel_rfl
theorem mul_run {n : Nat} (hn : n ≤ 64) {k : Nat} (hk : 3 ≤ k) : pureCall (rc pg k) 124 [.val (.int .u64 1), .val (.int .u64 n)] = some (.ret (.tup [.val (.int .u64 0), .val (.int .u64 n)])) := by
  obtain ⟨m, rfl⟩ := more_of hk
  have h := List.all_eq_true.1 (mul_tab m) n (List.mem_range.2 (by omega))
  unfold mulOk at h
  split at h
  · rename_i a b e
    simp only [Bool.and_eq_true, beq_iff_eq] at h
    rw [e, h.1, h.2]
  · cases h
end Go.Proofs.YtppfjkebamegnaaDoor
/- A number, so many times, by package slices. -/
namespace Go.Proofs.YtppfjkebamegnaaDoor
open Go Go.Em
set_option maxRecDepth 100000
def RpI (h0 : Heap) (v : Int) (n b : Nat) (k : Nat) (s : St) : Prop := ∃ (x : Env 48) (h : Heap) (m : Nat) (cs : List D), s = ⟨x.l, h, []⟩ ∧ n - m ≤ k ∧ 0 < m ∧ m ≤ n ∧ x.v 7 = .slr b 0 n 1 (some n) ∧ x.v 8 = D.int m ∧ h.get b = some (.cells 3 cs) ∧ cs.length = n ∧ (∀ j, j < m → cs[j]? = some (D.int v)) ∧ b < h.next ∧ h.Fr ∧ h0.next ≤ b ∧ Un h0 h
set_option maxHeartbeats 2000000 in
theorem rep_round (h0 : Heap) (v : Int) (n b : Nat) (hn : n ≤ 64) : ∀ f, 0 ≤ f → ∀ k s, RpI h0 v n b k s → Res (k115l0.ev ⟨pg, 48, none⟩ (rc pg f) s) (Rnd (RpI h0 v n b) (fun x s => x = .exit 0 ∧ RpI h0 v n b 0 s) k) := by
  rintro f hf k s ⟨x, h, m, cs, rfl, hk, hm0, hmn, v7, v8, hg, hcs, hv, hb, hfr, hb0, hu1, hu2⟩
  by_cases hm : m < n
  · have w1 : IntKind.i64.wrap ((m : Int) + (min m (n - m) : Nat)) = ((m + min m (n - m) : Nat) : Int) := by rw [wrap_i64 (by omega) (by omega)]; omega
    have hin : (m : Int) < n := by omega
    have s1 : sliceR b 0 1 (some n) (m : Int) (n : Int) none (upTo (some n) n 0 1 n) = some (.slr b m (n - m) 1 (some (n - m))) := by
      unfold sliceR
      have h1 : ¬ ((m : Int) = n ∧ 0 < (m : Int)) := by omega
      have h2 : (decide (0 ≤ (m : Int)) && decide ((m : Int) ≤ n) && upTo (some n) n 0 1 n n && mxOk n (upTo (some n) n 0 1 n) none) = true := by
        unfold upTo mxOk; simp; omega
      rw [if_pos h2, if_neg h1]
      simp [mxCap]
    have s2 : sliceR b 0 1 (some n) 0 (m : Int) none (upTo (some n) n 0 1 n) = some (.slr b 0 m 1 (some n)) := by
      unfold sliceR
      have h1 : ¬ ((0 : Int) = m ∧ (0 : Int) < 0) := by omega
      have h2 : (decide ((0 : Int) ≤ 0) && decide ((0 : Int) ≤ m) && upTo (some n) n 0 1 n m && mxOk m (upTo (some n) n 0 1 n) none) = true := by
        unfold upTo mxOk; simp; omega
      rw [if_pos h2, if_neg h1]
      simp [mxCap]
    have hone : ∀ y ∈ List.take m cs, D.one y = true := by
      intro y hy
      obtain ⟨j, hj, e⟩ := List.getElem_of_mem hy
      have hjm : j < m := by simp at hj; omega
      rw [List.getElem_take] at e
      have := hv j hjm
      rw [List.getElem?_eq_getElem (by omega), e] at this
      rw [Option.some.inj this]; rfl
    obtain ⟨q, hq⟩ : ∃ q, q = min m (n - m) := ⟨_, rfl⟩
    have hq1 : 0 < q ∧ q ≤ m ∧ m + q ≤ n := by omega
    rw [← hq] at w1
    have hone' : (∀ y, y ∈ List.take m cs → D.one y = true) = True := eq_true hone
    simp [k115l0, v7, v8, hin, hg, w1, noStr, hcs, s1, s2, hmn, hone', ← hq]
    refine ⟨k - 1, by omega, _, _, m + q, _, rfl, by omega, by omega, by omega, by simp [v7], by simp, by simp; rfl, ?_, fun j hj => ?_, by simp; omega, ?_, hb0, by simp; omega, fun j hj => ?_⟩
    · simp; omega
    · rw [List.getElem?_append]
      split
      · rw [List.getElem?_take]; split
        · exact hv j (by assumption)
        · rename_i h1 h2; simp at h1; omega
      · rename_i h1
        have h1' : m ≤ j := by simp at h1; omega
        have hl : (List.take m cs).length = m := by simp; omega
        rw [hl, List.getElem?_append_left (by simp; omega), List.getElem?_take, if_pos (by omega), List.getElem?_take, if_pos (by omega)]
        exact hv _ (by omega)
    · repeat' first | exact hfr | apply Heap.Fr.bump | apply Heap.Fr.set
      all_goals (simp <;> omega)
    · have := hu2 j hj
      simp [show j ≠ b by omega, this]
  · have hm' : ¬ (m : Int) < n := by omega
    simp [k115l0, v7, v8, hm']
    exact ⟨_, _, m, cs, rfl, by omega, hm0, hmn, by simp [v7], by simp [v8], by simp [hg], hcs, hv, by simp; omega, hfr.bump _, hb0, by simp; omega, fun j hj => by simpa using hu2 j hj⟩
theorem rep_sh (v : Int) {n : Nat} (hn : n ≤ 64) (hn0 : 0 < n) {h : Heap} (hf : h.Fr) {f : Nat} (hfl : 80 ≤ f) : ∃ b h', (rc pg f).fn 115 [.sl false [D.int v], D.int n] h = some (.ret (.slr b 0 n 1 (some n)), h') ∧ h'.get b = some (.cells 3 ((List.replicate n v).map D.int)) ∧ b < h'.next ∧ h'.Fr ∧ h.next ≤ b ∧ Un h h' := by
  obtain ⟨m, rfl, e⟩ := fn_body (pg := pg) (f := 115) (args := [.sl false [D.int v], D.int n]) (h := h) (show 0 < f by omega) rfl rfl
  rw [e]
  have hfr : ∀ j, h.raw (h.next + j) = none := fun j => hf _ (by omega)
  have c87 := fun h => call_of (h := h) (pg := pg) (f := 124) (args := [.val (.int .u64 1), .val (.int .u64 n)]) rfl rfl (@mul_run n hn m (by omega))
  have w1 : IntKind.u64.wrap (n : Int) = (n : Int) := wrap_u64 (by omega) (by omega)
  have w2 : IntKind.i64.wrap (n : Int) = (n : Int) := wrap_i64 (by omega) (by omega)
  have w0 : IntKind.u64.wrap 1 = 1 := by decide
  have n0 : ¬ ((n : Int) < 0) := by omega
  have n1 : ¬ ((9223372036854775807 : Int) < n) := by omega
  have hm1 : min 1 n = 1 := by omega
  have hroom : (8 : Int) * n ≤ (room : Int) := by unfold room; omega
  have hz : zerosD [.int .i64 0] 1 n = List.replicate n (D.int 0) := by
    unfold zerosD
    refine List.eq_replicate_iff.2 ⟨by simp, fun b hb => ?_⟩
    obtain ⟨i, _, rfl⟩ := List.mem_map.1 hb
    simp [Nat.mod_one]
  simp [k115, Env.v_ini, c87, hm1, hroom, hz, D.cells, D.one, w0, w1, w2, n0, n1, hfr, Nat.add_assoc, noStr, ev_loop]
  refine Res.tailG (F := fun b => D.slr b 0 n 1 (some n)) (C := fun b h' => h'.get b = some (.cells 3 (List.replicate n (D.int v))) ∧ b < h'.next ∧ h'.Fr ∧ h.next ≤ b ∧ Un h h') (lp_rule 0 (RpI h v n (h.next + 222)) _ (rep_round h v n _ hn) n m _ (by omega) ⟨_, _, 1, D.int v :: List.replicate (n - 1) (D.int 0), rfl, by omega, by omega, by omega, by simp, by simp, by simp, by simp; omega, fun j hj => ?_, by simp <;> omega, ?_, by omega, by simp; omega, fun q hq => by simp [show q ≠ h.next + 222 by omega]⟩) ?_
  · obtain rfl : j = 0 := by omega
    rfl
  · repeat' first | exact hf | apply Heap.Fr.bump | apply Heap.Fr.set
    all_goals (simp <;> omega)
  · rintro x s ⟨rfl, x, h', m', cs, rfl, hk, hm0, hmn, v7, v8, hg, hcs, hv, hb, hf, hb0, hu1, hu2⟩
    have hcs' : cs = List.replicate n (D.int v) := by
      refine List.eq_replicate_iff.2 ⟨hcs, fun d hd => ?_⟩
      obtain ⟨j, hj, e⟩ := List.getElem_of_mem hd
      have := hv j (by omega)
      rw [List.getElem?_eq_getElem hj, e] at this
      exact Option.some.inj this
    rw [hcs'] at hg
    refine ⟨h.next + 222, h'.bump 48, by simp [v7], by simpa using hg, by simp; omega, hf.bump _, hb0, by simp; omega, fun q hq => by simpa using hu2 q hq⟩
end Go.Proofs.YtppfjkebamegnaaDoor
/- Years that are lowered round by round, by the program. -/
namespace Go.Proofs.YtppfjkebamegnaaDoor
open Go Go.Em Go.Em.Net
set_option maxRecDepth 100000
structure Mo where
  cl : Int
  bk : Bool
  fr : Nat
  to_ : Nat
  mo : Int
def moC (m : Mo) : List D := [D.int m.cl, D.bool m.bk, D.int m.fr, D.int m.to_, D.int m.mo]
def moD (m : Mo) : D := .agg (moC m)
def mosD (l : List Mo) : D := .sl false (l.map moD)
def grD (M : List Int) (l : List Mo) : D := .agg [intsD M, mosD l]
def mvs (l : List Mo) : List Mv := l.map fun m => (m.fr, m.to_, m.mo)
def its (mv : List Mv) : Nat → (Nat → Int) → Nat → Int
  | 0, y => y
  | r + 1, y => its mv r (mv.foldl relax y)
theorem its_snoc (mv : List Mv) : ∀ (r : Nat) (y : Nat → Int), its mv (r + 1) y = mv.foldl relax (its mv r y)
  | 0, _ => rfl
  | r + 1, y => its_snoc mv r (mv.foldl relax y)
theorem all_snoc (mv : List Mv) : ∀ (r : Nat) (y : Nat → Int), allChg mv (r + 1) y = (allChg mv r y && chg mv (its mv r y))
  | 0, y => by simp [allChg, its]
  | r + 1, y => by
    have := all_snoc mv r (mv.foldl relax y)
    unfold allChg
    rw [this, its, Bool.and_assoc]
theorem all_more (mv : List Mv) (r : Nat) (y : Nat → Int) (h : allChg mv r y = false) : ∀ k, allChg mv (r + k) y = false
  | 0 => h
  | k + 1 => by rw [← Nat.add_assoc, all_snoc, all_more mv r y h k]; rfl
theorem chg_snoc (m : Mv) : ∀ (l : List Mv) (y : Nat → Int), chg (l ++ [m]) y = (chg l y || decide ((l.foldl relax y) m.1 + m.2.2 < (l.foldl relax y) m.2.1))
  | [], y => by
    show (decide (y m.1 + m.2.2 < y m.2.1) || chg [] (relax y m)) = (chg [] y || decide (y m.1 + m.2.2 < y m.2.1))
    unfold chg
    rw [Bool.or_false, Bool.false_or]
  | a :: l, y => by
    rw [List.cons_append, chg, chg_snoc m l (relax y a), chg, Bool.or_assoc]; rfl
def Bd (c : Int) (y : Nat → Int) : Prop := ∀ v, -c ≤ y v ∧ y v ≤ 0
theorem Bd.relax {c : Int} {y : Nat → Int} (h : Bd c y) {m : Mv} (hm : -100000 ≤ m.2.2) : Bd (c + 100000) (relax y m) := by
  intro v
  refine ⟨?_, Int.le_trans (relax_le y m v) (h v).2⟩
  unfold Net.relax
  split
  · show -(c + 100000) ≤ (if v = m.2.1 then y m.1 + m.2.2 else y v)
    split
    · have := (h m.1).1; omega
    · have := (h v).1; omega
  · have := (h v).1; omega
def yCs (n : Nat) (y : Nat → Int) : List D := (List.range n).map fun v => D.int (y v)
theorem yCs_set {n : Nat} {y : Nat → Int} {j : Nat} (a : Int) : (yCs n y).set j (D.int a) = yCs n (fun v => if v = j then a else y v) := by
  apply List.ext_getElem?
  intro i
  unfold yCs
  rw [List.getElem?_set]
  by_cases hi : i < n
  · by_cases hij : j = i
    · subst hij; simp [hi]
    · have : ¬ i = j := fun e => hij e.symm
      simp [hij, hi, this]
  · by_cases hij : j = i
    · subst hij; simp [hi]
    · simp [hij, hi]
theorem yCs_len (n : Nat) (y : Nat → Int) : (yCs n y).length = n := by simp [yCs]
theorem yCs_get {n : Nat} {y : Nat → Int} {j : Nat} (hj : j < n) : (yCs n y)[j]? = some (D.int (y j)) := by simp [yCs, hj]
def Kl (gb yb bb n : Nat) (x : Env 63) : Prop := x.v 1 = .ptr gb 0 ∧ x.v 2 = .slr bb 0 n 1 (some n) ∧ x.v 4 = .slr yb 0 n 1 (some n) ∧ x.v 19 = D.int n
def Hl (M : List Int) (l : List Mo) (gb yb bb n : Nat) (y : Nat → Int) (h : Heap) : Prop := h.get gb = some (.cells 83 [intsD M, mosD l]) ∧ h.get yb = some (.cells 3 (yCs n y)) ∧ (∃ bl : List Int, bl.length = n ∧ h.get bb = some (.cells 3 (bl.map D.int))) ∧ gb < h.next ∧ yb < h.next ∧ bb < h.next ∧ h.Fr
def LowI (M : List Int) (l : List Mo) (gb yb bb n r s0 : Nat) (y0 : Nat → Int) (k : Nat) (s : St) : Prop := ∃ (x : Env 63) (h : Heap) (i : Nat) (late : Int), s = ⟨x.l, h, []⟩ ∧ i + k = l.length ∧ Kl gb yb bb n x ∧ x.v 20 = D.int r ∧ x.v 23 = mosD l ∧ x.v 24 = D.int l.length ∧ x.v 25 = D.int i ∧ x.v 3 = D.int late ∧ (late = -1 ↔ chg (mvs (l.take i)) y0 = false) ∧ Bd (100000 * (s0 + i : Nat)) ((mvs (l.take i)).foldl relax y0) ∧ Hl M l gb yb bb n ((mvs (l.take i)).foldl relax y0) h
set_option maxHeartbeats 8000000 in
theorem low_round (M : List Int) (l : List Mo) (gb yb bb n r s0 : Nat) (y0 : Nat → Int) (hd1 : gb ≠ yb) (hd2 : gb ≠ bb) (hd3 : yb ≠ bb) (hs0 : s0 ≤ 60000) (hl : l.length ≤ 800) (hin : ∀ m ∈ l, m.fr < n ∧ m.to_ < n ∧ -100000 ≤ m.mo ∧ m.mo ≤ 100000) :
    ∀ f, 0 ≤ f → ∀ k s, LowI M l gb yb bb n r s0 y0 k s → Res (k119l0.ev ⟨pg, 63, none⟩ (rc pg f) s) (Rnd (LowI M l gb yb bb n r s0 y0) (fun x s => x = .exit 2 ∧ LowI M l gb yb bb n r s0 y0 0 s) k) := by
  rintro f hf k s ⟨x, h, i, late, rfl, hik, ⟨v1, v2, v4, v19⟩, v20, v23, v24, v25, v3, hlate, hbd, hg, hy, ⟨bl, hbl, hb⟩, gn, yn, bn, hfr'⟩
  simp only [mosD] at v23
  by_cases hi : i < l.length
  · obtain ⟨c, hc⟩ : ∃ c, l[i] = c := ⟨_, rfl⟩
    obtain ⟨hf1, hf2, hf3, hf4⟩ := hin c (by rw [← hc]; exact List.getElem_mem hi)
    obtain ⟨y, hyd⟩ : ∃ y, y = (mvs (l.take i)).foldl relax y0 := ⟨_, rfl⟩
    rw [← hyd] at hbd hy
    have htk : mvs (l.take (i + 1)) = mvs (l.take i) ++ [(c.fr, c.to_, c.mo)] := by
      unfold mvs
      rw [List.take_add_one, List.getElem?_eq_getElem hi, hc]; simp
    have hy1 : (mvs (l.take (i + 1))).foldl relax y0 = relax y (c.fr, c.to_, c.mo) := by rw [htk, List.foldl_append, ← hyd]; rfl
    have hch : chg (mvs (l.take (i + 1))) y0 = (chg (mvs (l.take i)) y0 || decide (y c.fr + c.mo < y c.to_)) := by rw [htk, chg_snoc, ← hyd]
    have hbd1 := hbd.relax (m := (c.fr, c.to_, c.mo)) hf3
    have w1 : IntKind.i64.wrap ((i : Int) + 1) = (i : Int) + 1 := wrap_i64 (by omega) (by omega)
    have w2 : IntKind.i64.wrap (y c.fr + c.mo) = y c.fr + c.mo := by
      have := hbd c.fr
      exact wrap_i64 (by omega) (by omega)
    have hfr : ∀ j, h.raw (h.next + j) = none := fun j => hfr' _ (by omega)
    have n1 : ∀ j, (gb = h.next + j) = False := fun j => by simp; omega
    have n2 : ∀ j, (yb = h.next + j) = False := fun j => by simp; omega
    have n3 : ∀ j, (bb = h.next + j) = False := fun j => by simp; omega
    have n4 : (bb = yb) = False := by simp; omega
    have n5 : (gb = yb) = False := by simp [hd1]
    have n6 : (gb = bb) = False := by simp [hd2]
    have m2 : ∀ j, (h.next + j = yb) = False := fun j => by simp; omega
    have m3 : ∀ j, (h.next + j = bb) = False := fun j => by simp; omega
    have m4 : (yb = bb) = False := by simp [hd3]
    have hyl := yCs_len n y
    have hy2 : ∀ h' : c.fr < (yCs n y).length, (yCs n y)[c.fr]'h' = D.int (y c.fr) := fun h' => Option.some.inj (by rw [← List.getElem?_eq_getElem h']; exact yCs_get hf1)
    have hy3 : ∀ h' : c.to_ < (yCs n y).length, (yCs n y)[c.to_]'h' = D.int (y c.to_) := fun h' => Option.some.inj (by rw [← List.getElem?_eq_getElem h']; exact yCs_get hf2)
    have hle1 : c.fr + 1 ≤ n := hf1
    have hle2 : c.to_ + 1 ≤ n := hf2
    have hst : (yCs n y).take c.to_ ++ D.int (y c.fr + c.mo) :: (yCs n y).drop (c.to_ + 1) = yCs n (fun v => if v = c.to_ then y c.fr + c.mo else y v) := by
      rw [← yCs_set, List.set_eq_take_append_cons_drop, if_pos (by rw [hyl]; exact hf2)]
    by_cases hlt : y c.fr + c.mo < y c.to_
    · simp [k119l0, v1, v2, v4, v20, v23, v24, v25, v3, hi, hc, moD, moC, D.cells, D.one, hfr, Nat.add_assoc, hg, hy, hb, n1, n2, n3, n4, n5, n6, m2, m3, m4, hf1, hf2, hle1, hle2, hyl, hy2, hy3, hst, hbl, w1, w2, hlt]
      have hrel : relax y (c.fr, c.to_, c.mo) = fun v => if v = c.to_ then y c.fr + c.mo else y v := by unfold relax; rw [if_pos hlt]
      refine ⟨k - 1, by omega, _, _, i + 1, (c.to_ : Int), rfl, by omega, ⟨by simp [v1], by simp [v2], by simp [v4], by simp [v19]⟩, by simp [v20], by simp [v23, mosD], by simp [v24], by simp, by simp, ?_, ?_, ?_⟩
      · rw [hch, decide_eq_true hlt]
        simp
      · rw [hy1]
        have : (100000 * ((s0 + (i + 1) : Nat) : Int)) = 100000 * ((s0 + i : Nat) : Int) + 100000 := by omega
        rw [this]; exact hbd1
      · rw [hy1, hrel]
        refine ⟨by simp [n1, n5, n6, hg], by simp [n2, m4], ⟨bl.set c.to_ i, by simp [hbl], ?_⟩, by simp; omega, by simp; omega, by simp; omega, ?_⟩
        · rw [List.set_eq_take_append_cons_drop, if_pos (by omega)]
          simp
        · repeat' first | exact hfr' | apply Heap.Fr.bump | apply Heap.Fr.set
          all_goals (simp <;> omega)
    · have hrel : relax y (c.fr, c.to_, c.mo) = y := by unfold relax; rw [if_neg hlt]
      simp [k119l0, v1, v2, v4, v20, v23, v24, v25, v3, hi, hc, moD, moC, D.cells, D.one, hfr, Nat.add_assoc, hg, hy, hb, n1, n2, n3, n4, n5, n6, m2, m3, m4, hf1, hf2, hle1, hle2, hyl, hy2, hy3, hst, hbl, w1, w2, hlt]
      refine ⟨k - 1, by omega, _, _, i + 1, late, rfl, by omega, ⟨by simp [v1], by simp [v2], by simp [v4], by simp [v19]⟩, by simp [v20], by simp [v23, mosD], by simp [v24], by simp, by simp [v3], ?_, ?_, ?_⟩
      · rw [hch, decide_eq_false hlt, Bool.or_false]
        exact hlate
      · rw [hy1, hrel]
        intro v
        have := hbd v
        omega
      · rw [hy1, hrel]
        refine ⟨by simp [n1, hg], by simp [n2, hy], ⟨bl, hbl, by simp [n3, hb]⟩, by simp; omega, by simp; omega, by simp; omega, ?_⟩
        repeat' first | exact hfr' | apply Heap.Fr.bump | apply Heap.Fr.set
        all_goals (simp <;> omega)
  · simp [k119l0, v24, v25, hi]
    refine ⟨_, _, i, late, rfl, by omega, ⟨by simp [v1], by simp [v2], by simp [v4], by simp [v19]⟩, by simp [v20], by simp [v23, mosD], by simp [v24], by simp [v25], by simp [v3], hlate, hbd, by simp [hg], by simp [hy], ⟨bl, hbl, by simp [hb]⟩, by simp; omega, by simp; omega, by simp; omega, hfr'.bump _⟩
end Go.Proofs.YtppfjkebamegnaaDoor
/- Years that are lowered round by round, by the program: all rounds; whether claims contradict. -/
namespace Go.Proofs.YtppfjkebamegnaaDoor
open Go Go.Em Go.Em.Net
set_option maxRecDepth 100000
def z0 : Nat → Int := fun _ => 0
def LowO (M : List Int) (l : List Mo) (gb yb bb n : Nat) (k : Nat) (s : St) : Prop := ∃ (x : Env 63) (h : Heap) (r : Nat) (late : Int), s = ⟨x.l, h, []⟩ ∧ r + k = n ∧ Kl gb yb bb n x ∧ x.v 20 = D.int r ∧ x.v 3 = D.int late ∧ allChg (mvs l) r z0 = true ∧ (late = -1 ↔ r = 0) ∧ Bd (100000 * (r * l.length : Nat)) (its (mvs l) r z0) ∧ Hl M l gb yb bb n (its (mvs l) r z0) h
def LowQ (M : List Int) (l : List Mo) (gb yb bb n : Nat) (x : Ex) (s : St) : Prop := x = .exit 0 ∧ ∃ (x : Env 63) (h : Heap) (late : Int) (y : Nat → Int), s = ⟨x.l, h, []⟩ ∧ Kl gb yb bb n x ∧ x.v 3 = D.int late ∧ (late = -1 ↔ ¬ (0 < n ∧ allChg (mvs l) n z0 = true)) ∧ Hl M l gb yb bb n y h
def LowP (M : List Int) (l : List Mo) (gb yb bb n r : Nat) (x : Ex) (s : St) : Prop := (x = .normal ∧ chg (mvs l) (its (mvs l) r z0) = true ∨ x = .exit 0 ∧ chg (mvs l) (its (mvs l) r z0) = false) ∧ ∃ (x : Env 63) (h : Heap) (late : Int), s = ⟨x.l, h, []⟩ ∧ Kl gb yb bb n x ∧ x.v 20 = D.int r ∧ x.v 3 = D.int late ∧ (late = -1 ↔ chg (mvs l) (its (mvs l) r z0) = false) ∧ Bd (100000 * (r * l.length + l.length : Nat)) ((mvs l).foldl relax (its (mvs l) r z0)) ∧ Hl M l gb yb bb n ((mvs l).foldl relax (its (mvs l) r z0)) h
set_option maxHeartbeats 8000000 in
theorem low_rounds (M : List Int) (l : List Mo) (gb yb bb n : Nat) (hd1 : gb ≠ yb) (hd2 : gb ≠ bb) (hd3 : yb ≠ bb) (hn : n ≤ 64) (hl : l.length ≤ 800) (hin : ∀ m ∈ l, m.fr < n ∧ m.to_ < n ∧ -100000 ≤ m.mo ∧ m.mo ≤ 100000) :
    ∀ f, 802 ≤ f → ∀ k s, LowO M l gb yb bb n k s → Res (k119l1.ev ⟨pg, 63, none⟩ (rc pg f) s) (Rnd (LowO M l gb yb bb n) (LowQ M l gb yb bb n) k) := by
  rintro f hf k s ⟨x, h, r, late, rfl, hrk, ⟨v1, v2, v4, v19⟩, v20, v3, hall, hlate, hbd, hg, hy, ⟨bl, hbl, hb⟩, gn, yn, bn, hfr'⟩
  have hrl : r * l.length ≤ 64 * 800 := Nat.mul_le_mul (by omega) hl
  by_cases hr : r < n
  · have w1 : IntKind.i64.wrap ((r : Int) + 1) = (r : Int) + 1 := wrap_i64 (by omega) (by omega)
    have hfr : ∀ j, h.raw (h.next + j) = none := fun j => hfr' _ (by omega)
    have hm1 : IntKind.i64.wrap (-1) = -1 := by decide
    simp [k119l1, v1, v2, v4, v19, v20, v3, hr, hg, mosD, D.cells, D.one, ev_loop]
    have mt : mvs (l.take 0) = [] := rfl
    refine Res.after (P := LowP M l gb yb bb n r) (Res.after (P := fun x s => x = .exit 2 ∧ LowI M l gb yb bb n r (r * l.length) (its (mvs l) r z0) 0 s) (lp_rule 0 (LowI M l gb yb bb n r (r * l.length) (its (mvs l) r z0)) _ (low_round M l gb yb bb n r (r * l.length) (its (mvs l) r z0) hd1 hd2 hd3 (by omega) hl hin) l.length f _ (by omega)
      ⟨_, _, 0, -1, rfl, by omega, ⟨by simp [v1], by simp [v2], by simp [v4], by simp [v19]⟩, by simp [v20], by simp [mosD], by simp, by simp, by simp, by rw [mt]; simp [chg], by rw [mt]; simpa using hbd, ?_⟩) ?_) ?_
    · rw [mt]
      refine ⟨by simp [hg], by simp [hy], ⟨bl, hbl, by simp [hb]⟩, by simp; omega, by simp; omega, by simp; omega, ?_⟩
      repeat' first | exact hfr' | apply Heap.Fr.bump | apply Heap.Fr.set
    · rintro x' s' ⟨rfl, x, h, i, late, rfl, hi, ⟨v1, v2, v4, v19⟩, v20, v23, v24, v25, v3, hlate, hbd, hg, hy, ⟨bl, hbl, hb⟩, gn, yn, bn, hfr'⟩
      have hil : i = l.length := by omega
      subst hil
      rw [List.take_length] at hlate hbd hy
      have hH : ∀ m, Hl M l gb yb bb n ((mvs l).foldl relax (its (mvs l) r z0)) (h.bump m) := fun m => ⟨by simp [hg], by simp [hy], ⟨bl, hbl, by simp [hb]⟩, by simp; omega, by simp; omega, by simp; omega, hfr'.bump _⟩
      by_cases hl1 : late = -1
      · simp [v3, hl1]
        exact ⟨.inr ⟨rfl, hlate.1 hl1⟩, _, _, late, rfl, ⟨by simp [v1], by simp [v2], by simp [v4], by simp [v19]⟩, by simp [v20], by simp [v3], hlate, hbd, hH _⟩
      · have hc : chg (mvs l) (its (mvs l) r z0) = true := by
          cases hc : chg (mvs l) (its (mvs l) r z0) with
          | true => rfl
          | false => exact absurd (hlate.2 hc) hl1
        have hl2 : (late == -1) = false := by simp [hl1]
        simp [-beq_eq_false_iff_ne, v3, hl2]
        exact ⟨.inl ⟨rfl, hc⟩, _, _, late, rfl, ⟨by simp [v1], by simp [v2], by simp [v4], by simp [v19]⟩, by simp [v20], by simp [v3], hlate, hbd, hH _⟩
    · rintro x' s' ⟨hx, x, h, late, rfl, ⟨v1, v2, v4, v19⟩, v20, v3, hlate, hbd, hg, hy, ⟨bl, hbl, hb⟩, gn, yn, bn, hfr'⟩
      have hsn := all_snoc (mvs l) r z0
      rw [hall, Bool.true_and] at hsn
      rcases hx with ⟨rfl, hc⟩ | ⟨rfl, hc⟩
      · have hl1 : late ≠ -1 := fun e => by rw [hlate.1 e] at hc; cases hc
        rw [hc] at hsn
        simp [v20, w1]
        refine ⟨k - 1, by omega, _, _, r + 1, late, rfl, by omega, ⟨by simp [v1], by simp [v2], by simp [v4], by simp [v19]⟩, by simp, by simp [v3], hsn, ⟨fun e => absurd e hl1, fun e => absurd e (by omega)⟩, ?_, ?_⟩
        · rw [its_snoc, Nat.succ_mul]; exact hbd
        · rw [its_snoc]
          exact ⟨by simp [hg], by simp [hy], ⟨bl, hbl, by simp [hb]⟩, by simp; omega, by simp; omega, by simp; omega, hfr'.bump _⟩
      · rw [hc] at hsn
        have hno := all_more (mvs l) (r + 1) z0 hsn (n - (r + 1))
        rw [show r + 1 + (n - (r + 1)) = n by omega] at hno
        simp
        exact ⟨rfl, _, _, late, _, rfl, ⟨v1, v2, v4, v19⟩, v3, ⟨fun _ => (by rw [hno]; simp), fun _ => hlate.2 hc⟩, hg, hy, ⟨bl, hbl, hb⟩, gn, yn, bn, hfr'⟩
  · have hr' : r = n := by omega
    subst hr'
    simp [k119l1, v19, v20]
    refine ⟨rfl, _, _, late, _, rfl, ⟨by simp [v1], by simp [v2], by simp [v4], by simp [v19]⟩, by simp [v3], ?_, by simp [hg], by simp [hy]; rfl, ⟨bl, hbl, by simp [hb]⟩, by simp; omega, by simp; omega, by simp; omega, hfr'.bump _⟩
    rw [hlate, hall]
    simp
end Go.Proofs.YtppfjkebamegnaaDoor
/- Whether claims contradict each other, by the program. -/
namespace Go.Proofs.YtppfjkebamegnaaDoor
open Go Go.Em Go.Em.Net
set_option maxRecDepth 100000
theorem Res.endsEx {o : Option (Ex × St)} {id : Nat} {k : St → Option (Ex × St)} {R : Rc} {rs : List (ResultVar × Bool × Nat)} {P : Ex → St → Prop} {C : Out → Prop} (h : Res o P)
    (hk : ∀ x s, P x s → ∃ out, endK R rs (andThen (blockK id (some (x, s))) k) = some out ∧ C out) : ∃ out, endK R rs (andThen (blockK id o) k) = some out ∧ C out := by
  obtain ⟨x, s, rfl, p⟩ := h; exact hk x s p
theorem low_nil (m : Nat) : pureCall (rc pg (m + 10)) 119 [.agg [.sl false [], .sl false []]] = some (.ret (.tup [.sl false [], D.int (-1)])) := by kernel_rfl
theorem chunk_one : ∀ (n : Nat) (l : List D), l.length = n → chunk 1 n l = l
  | 0, [], _ => rfl
  | n + 1, a :: l, h => by
    unfold chunk
    simp [chunk_one n l (by simpa using h)]
theorem mo_canonL (l : List Mo) : D.canonL (l.map moD) = true := canonL_map _ (fun m => by simp [moD, moC]) l
theorem gr_canon (M : List Int) (l : List Mo) : D.canonL [grD M l] = true := by simp [grD, intsD, mosD, ints_canonL, mo_canonL]
def LowOut (M : List Int) (l : List Mo) (o : Out) : Prop := ∃ (bl : List Int) (late : Int), o = .ret (.tup [intsD bl, D.int late]) ∧ (late = -1 ↔ ¬ (0 < M.length ∧ allChg (mvs l) M.length z0 = true))
set_option maxHeartbeats 4000000 in
theorem low_run (M : List Int) (l : List Mo) (hn : M.length ≤ 64) (hl : l.length ≤ 800) (hin : ∀ m ∈ l, m.fr < M.length ∧ m.to_ < M.length ∧ -100000 ≤ m.mo ∧ m.mo ≤ 100000) {f : Nat} (hf : 1000 ≤ f) : ∃ o, pureCall (rc pg f) 119 [grD M l] = some o ∧ LowOut M l o := by
  by_cases h0 : M.length = 0
  · have hM : M = [] := List.eq_nil_of_length_eq_zero h0
    have hL : l = [] := by
      cases l with
      | nil => rfl
      | cons a _ => have := (hin a List.mem_cons_self).1; omega
    subst hM; subst hL
    obtain ⟨m, rfl⟩ := more_of (show 10 ≤ f by omega)
    exact ⟨_, low_nil m, [], -1, rfl, by simp⟩
  · obtain ⟨m, rfl, e⟩ := body (pg := pg) (f := 119) (args := [grD M l]) (show 0 < f by omega) rfl rfl
    rw [e]
    have s82 : pg.sh 115 = true := rfl
    have hroom : (8 : Int) * M.length ≤ (room : Int) := by unfold room; omega
    have hz : zerosD [.int .i64 0] 1 M.length = List.replicate M.length (D.int 0) := by
      unfold zerosD
      refine List.eq_replicate_iff.2 ⟨by simp, fun b hb => ?_⟩
      obtain ⟨i, _, rfl⟩ := List.mem_map.1 hb
      simp [Nat.mod_one]
    have hz1 : zerosD [.int .i64 0] 1 1 = [D.int 0] := rfl
    have hm1 : IntKind.i64.wrap (-1) = -1 := by decide
    obtain ⟨H, hH⟩ : ∃ H, H = ((((((Heap.empty.bump 63).set 1 (some (.cells 83 [intsD M, mosD l]))).bump 63).set 74 (some (.cells 3 (List.replicate M.length (D.int 0))))).bump 63).set 138 (some (.cells 3 [D.int (-1)]))).set 138 none := ⟨_, rfl⟩
    have hHf : H.Fr := by
      rw [hH]
      repeat' first | exact Heap.Fr.empty | apply Heap.Fr.bump | apply Heap.Fr.set
      all_goals first | omega | (simp <;> omega)
    have hHn : H.next = 189 := by rw [hH]; simp
    have hH1 : H.get 1 = some (.cells 83 [intsD M, mosD l]) := by rw [hH]; simp
    have hyz : List.replicate M.length (D.int 0) = yCs M.length z0 := by
      unfold yCs
      symm
      refine List.eq_replicate_iff.2 ⟨by simp, fun b hb => ?_⟩
      obtain ⟨i, _, rfl⟩ := List.mem_map.1 hb
      rfl
    have hH74 : H.get 74 = some (.cells 3 (yCs M.length z0)) := by rw [hH, ← hyz]; simp
    obtain ⟨b, h', e1, g1, b1, f1, b0, u1, u2⟩ := rep_sh (-1) hn (by omega) hHf (f := m) (by omega)
    have c82 := call_sh (pg := pg) s82 e1
    rw [hHn] at b0 u1 u2
    have hg1 : h'.get 1 = some (.cells 83 [intsD M, mosD l]) := by unfold Heap.get at hH1 ⊢; rw [u2 1 (by omega)]; exact hH1
    have hg74 : h'.get 74 = some (.cells 3 (yCs M.length z0)) := by unfold Heap.get at hH74 ⊢; rw [u2 74 (by omega)]; exact hH74
    simp only [intsD, mosD] at hH hg1 hH1
    simp [k119, Env.v_ini, grD, intsD, mosD, D.cells, D.one, hroom, hz, hz1, chunk, ← hH, hH1, c82, hg1, ev_loop]
    refine Res.endsEx (lp_rule 802 (LowO M l 1 74 b M.length) _ (low_rounds M l 1 74 b M.length (by omega) (by omega) (by omega) hn hl hin) M.length m _ (by omega) ⟨_, _, 0, -1, rfl, by omega, ⟨by simp, by simp, by simp, by simp⟩, by simp, by simp, rfl, by simp, ?_, ?_⟩) ?_
    · intro v; simp [its, z0]
    · refine ⟨by simp [hg1, intsD, mosD], by simp [hg74, its], ⟨List.replicate M.length (-1), by simp, by simp [g1]⟩, by simp <;> omega, by simp <;> omega, by simp <;> omega, ?_⟩
      repeat' first | exact f1 | apply Heap.Fr.bump | apply Heap.Fr.set
    · rintro x s ⟨rfl, x, h, late, y, rfl, ⟨v1, v2, v4, v19⟩, v3, hlate, hg, hy, ⟨bl, hbl, hb⟩, gn, yn, bn, hfr'⟩
      refine ⟨.ret (.tup [intsD bl, D.int late]), ?_, bl, late, rfl, hlate⟩
      have htk : List.take M.length (bl.map D.int) = bl.map D.int := List.take_of_length_le (by simp; omega)
      have hch : chunk 1 M.length (bl.map D.int) = bl.map D.int := chunk_one _ _ (by simp [hbl])
      simp [v2, v3, hb, hbl, intsD, htk, hch]
end Go.Proofs.YtppfjkebamegnaaDoor
/- Whether moves contradict each other; the moves along claims. -/
namespace Go.Proofs.YtppfjkebamegnaaDoor
open Go Go.Em Go.Em.Net
set_option maxRecDepth 100000
def conF (M : List Int) (l : List Mo) : Bool := decide (0 < M.length) && allChg (mvs l) M.length z0
theorem con_run (M : List Int) (l : List Mo) (hn : M.length ≤ 64) (hl : l.length ≤ 800) (hin : ∀ m ∈ l, m.fr < M.length ∧ m.to_ < M.length ∧ -100000 ≤ m.mo ∧ m.mo ≤ 100000) {f : Nat} (hf : 1001 ≤ f) : pureCall (rc pg f) 101 [grD M l] = some (.ret (D.bool (conF M l))) := by
  obtain ⟨m, rfl, e⟩ := body (pg := pg) (f := 101) (args := [grD M l]) (show 0 < f by omega) rfl rfl
  rw [e]
  obtain ⟨o, ho, bl, late, rfl, hlate⟩ := low_run M l hn hl hin (f := m) (by omega)
  have c83 := fun h => call_of (h := h) (pg := pg) (f := 119) rfl (gr_canon M l) ho
  have hres : (late != -1) = conF M l := by
    unfold conF
    cases h1 : (decide (0 < M.length) && allChg (mvs l) M.length z0) with
    | true =>
      rw [Bool.and_eq_true, decide_eq_true_eq] at h1
      simpa [bne_iff_ne] using fun e => hlate.1 e h1
    | false =>
      have : late = -1 := hlate.2 fun h2 => by rw [decide_eq_true h2.1, h2.2] at h1; cases h1
      simp [this]
  simp only [grD] at c83
  have hex : ((grD M l).cells) = [intsD M, mosD l] := rfl
  simp only [intsD, mosD] at c83
  simp [-bne_iff_ne, k101, Env.v_ini, grD, intsD, mosD, D.cells, D.one, c83, hres]
def placeF (M : List Int) (v : Int) : Nat := M.idxOf v
def movF (M : List Int) (i : Nat) (c : Clm) : List Mo := [⟨i, false, placeF M c.a, placeF M c.b, c.hi⟩, ⟨i, true, placeF M c.b, placeF M c.a, -c.lo⟩]
def movsF (M : List Int) : Nat → List Clm → List Mo
  | _, [] => []
  | i, c :: l => movF M i c ++ movsF M (i + 1) l
end Go.Proofs.YtppfjkebamegnaaDoor
/- The graph of claims: the claims that may be used (all of them). -/
namespace Go.Proofs.YtppfjkebamegnaaDoor
open Go Go.Em Go.Em.Net
set_option maxRecDepth 100000
def nil2 : List D := [.val (.slice none 0 0), .val (.slice none 0 0)]
end Go.Proofs.YtppfjkebamegnaaDoor
/- The graph of claims: the moves. -/
namespace Go.Proofs.YtppfjkebamegnaaDoor
open Go Go.Em Go.Em.Net
set_option maxRecDepth 100000
theorem place_at {M : List Int} {v : Int} (hv : v ∈ M) : ∃ h : placeF M v < M.length, M[placeF M v] = v :=
  ⟨List.idxOf_lt_length_iff.2 hv, List.getElem_idxOf _⟩
end Go.Proofs.YtppfjkebamegnaaDoor
/- The graph of claims, by the program. -/
namespace Go.Proofs.YtppfjkebamegnaaDoor
open Go Go.Em Go.Em.Net
set_option maxRecDepth 100000
def dZ2 (base : Nat) (e : List D) (ts hs : List HK) (h : Heap) (ks : List Nat) (o : Option Out) : Option (D × Heap) := match o with
  | some (.ret d) => if (ks.isEmpty || d.flat || mayKill base e ts hs false ks) = true then some (d, thaw ks d h) else none
  | _ => none
theorem dZ2_ret {base : Nat} {e : List D} {ts hs : List HK} {h : Heap} {ks : List Nat} {d : D} (hk : mayKill base e ts hs false ks = true) : dZ2 base e ts hs h ks (some (.ret d)) = some (d, thaw ks d h) := by
  unfold dZ2; simp [hk]
def dZ (R : Rc) (f : FuncId) (base : Nat) (e : List D) (ts hs : List HK) (h : Heap) (z : Option (D × List Nat)) : Option (D × Heap) := match z with
  | some (a, ks) => dZ2 base e ts hs h ks (pureS R f [a])
  | none => none
theorem dZ_some {R : Rc} {f : FuncId} {base : Nat} {e : List D} {ts hs : List HK} {h : Heap} {a : D} {ks : List Nat} {o : Out} (hp : pureCall R f [a] = some o) : dZ R f base e ts hs h (some (a, ks)) = dZ2 base e ts hs h ks (some o) := by
  unfold dZ; simp [hp]
theorem dcore_y {c : Cfg} {R : Rc} {base : Nat} (d : Option Nat) (f : FuncId) (x : X) (ts hs : List HK) (wt : Nat) (e : List D) (h : Heap) (hs' : c.pg.sh f = false) :
    dcore c R base ⟨⟨none, d, .inr (.fn f [x])⟩, some ts, hs, wt, false⟩ e h = dZ R f base e ts hs h (frz (h.kill (hids base e hs)) depth (rd c.pg.gl e x)) := by
  unfold dcore dZ
  simp only [G.want, hs', Bool.false_eq_true, if_false, List.map_cons, List.map_nil, each_cons, each_nil]
  cases hz : frz (h.kill (hids base e hs)) depth (rd c.pg.gl e x) with
  | none => unfold eachK; rfl
  | some p =>
    obtain ⟨a, ks⟩ := p
    simp only [eachK_some, List.append_nil, pureA_cons]
    cases hp : pureS R f [a] with
    | none => unfold dZ2; rfl
    | some o =>
      unfold dZ2
      cases o <;> simp [Out.isPan, Out.d]
end Go.Proofs.YtppfjkebamegnaaDoor
/- A net without bounds, by the program. -/
namespace Go.Proofs.YtppfjkebamegnaaDoor
open Go Go.Em Go.Em.Net
set_option maxRecDepth 100000
def rowS (n k : Nat) : D := .slr k 0 n 1 (some n)
structure Mat (n : Nat) (A : Nat → Nat → Int) (mb : Nat) (ks : List Nat) (h : Heap) : Prop where
  len : ks.length = n
  top : h.get mb = some (.cells 31 (ks.map (rowS n)))
  nd : ks.Nodup
  lt : ∀ q ∈ ks, q < h.next ∧ q ≠ mb
  row : ∀ j, ∀ hj : j < ks.length, h.get ks[j] = some (.cells 3 (yCs n (A j)))
  mlt : mb < h.next
end Go.Proofs.YtppfjkebamegnaaDoor
/- A number of a net is lowered, by the program. -/
namespace Go.Proofs.YtppfjkebamegnaaDoor
open Go Go.Em Go.Em.Net
set_option maxRecDepth 100000
def updA (A : Nat → Nat → Int) (i j : Nat) (v : Int) : Nat → Nat → Int := fun a b => if a = i ∧ b = j then v else A a b
def Only (ks : List Nat) (h h' : Heap) : Prop := h.next ≤ h'.next ∧ ∀ q, q < h.next → q ∉ ks → h'.raw q = h.raw q
theorem Only.get {ks : List Nat} {h h' : Heap} (o : Only ks h h') {q : Nat} (h1 : q < h.next) (h2 : q ∉ ks) : h'.get q = h.get q := by unfold Heap.get; rw [o.2 q h1 h2]
theorem Only.trans {ks : List Nat} {a b c : Heap} (o : Only ks a b) (p : Only ks b c) : Only ks a c := ⟨Nat.le_trans o.1 p.1, fun q h1 h2 => by rw [p.2 q (Nat.lt_of_lt_of_le h1 o.1) h2, o.2 q h1 h2]⟩
theorem Mat.at {n : Nat} {A : Nat → Nat → Int} {mb : Nat} {ks : List Nat} {h : Heap} (m : Mat n A mb ks h) {i : Nat} (hi : i < n) : ∃ k, (∀ h', (ks.map (rowS n))[i]'h' = rowS n k) ∧ k ∈ ks ∧ (∀ hj : i < ks.length, ks[i] = k) ∧ h.get k = some (.cells 3 (yCs n (A i))) := by
  have hl := m.len
  exact ⟨ks[i], fun h' => by simp, List.getElem_mem _, fun _ => rfl, m.row i (by omega)⟩
theorem Mat.put {n : Nat} {A B : Nat → Nat → Int} {mb : Nat} {ks : List Nat} {h h' : Heap} (m : Mat n A mb ks h) {i : Nat} (hi : i < n) {k : Nat} (hk : ∀ hj : i < ks.length, ks[i] = k) (hg : h'.get k = some (.cells 3 (yCs n (B i)))) (ho : ∀ q, q < h.next → q ≠ k → h'.get q = h.get q) (hn : h.next ≤ h'.next) (hB : ∀ a, a ≠ i → B a = A a) : Mat n B mb ks h' := by
  have hl := m.len
  have hkk := hk (by omega)
  have hkm : k ∈ ks := by rw [← hkk]; exact List.getElem_mem _
  refine ⟨hl, ?_, m.nd, fun q hq => ⟨Nat.lt_of_lt_of_le (m.lt q hq).1 hn, (m.lt q hq).2⟩, fun j hj => ?_, Nat.lt_of_lt_of_le m.mlt hn⟩
  · rw [ho mb m.mlt (Ne.symm (m.lt k hkm).2)]; exact m.top
  · by_cases hji : j = i
    · subst hji; rw [hkk]; exact hg
    · have hne : ks[j] ≠ k := fun e => by
        rw [← hkk] at e
        have hp := List.pairwise_iff_getElem.1 m.nd
        rcases Nat.lt_or_gt_of_ne hji with h1 | h1
        · exact hp j i hj (by omega) h1 e
        · exact hp i j (by omega) hj h1 e.symm
      rw [ho _ (m.lt _ (List.getElem_mem hj)).1 hne, hB j hji]
      exact m.row j hj
end Go.Proofs.YtppfjkebamegnaaDoor
/- The numbers of a net are lowered over one mark, by the program. -/
namespace Go.Proofs.YtppfjkebamegnaaDoor
open Go Go.Em Go.Em.Net
set_option maxRecDepth 100000
def stI (k i : Nat) (A : Nat → Nat → Int) (j : Nat) : Nat → Nat → Int := if A k j = 1000000000 then A else updA A i j (min (A i j) (A i k + A k j))
def rowI (k i : Nat) (A : Nat → Nat → Int) : Nat → Nat → Nat → Int
  | 0 => A
  | J + 1 => stI k i (rowI k i A J) J
def stageI (n k : Nat) (A : Nat → Nat → Int) : Nat → Nat → Nat → Int
  | 0 => A
  | I + 1 => if stageI n k A I I k = 1000000000 then stageI n k A I else rowI k I (stageI n k A I) n
structure ThrK (M : List Int) (n k mb bx : Nat) (rk : Nat) (x : Env 58) (i : Nat) : Prop where
  v1 : x.v 1 = D.int k
  v2 : x.v 2 = .ptr bx 0
  v4 : x.v 4 = rowS n rk
  v16 : x.v 16 = rowS n mb
  v17 : x.v 17 = D.int n
  v18 : x.v 18 = D.int i
structure ThrH (M : List Int) (n : Nat) (B : Nat → Nat → Int) (mb bx : Nat) (ks : List Nat) (h0 h : Heap) : Prop where
  mat : Mat n B mb ks h
  only : Only ks h0 h
  box : h.get bx = some (.cells 74 [intsD M, rowS n mb])
  bn : bx < h.next
  bm : bx ≠ mb
  bk : bx ∉ ks
  fr : h.Fr
theorem Mat.bump {n : Nat} {A : Nat → Nat → Int} {mb : Nat} {ks : List Nat} {h : Heap} (m : Mat n A mb ks h) (z : Nat) : Mat n A mb ks (h.bump z) :=
  ⟨m.len, by simp [m.top], m.nd, fun q hq => by have := m.lt q hq; simp; omega, fun j hj => by simp [m.row j hj], by have := m.mlt; simp; omega⟩
theorem Only.bump {ks : List Nat} {h h' : Heap} (o : Only ks h h') (z : Nat) : Only ks h (h'.bump z) := ⟨by have := o.1; simp; omega, fun q h1 h2 => by simp [o.2 q h1 h2]⟩
theorem ThrH.bump {M : List Int} {n : Nat} {B : Nat → Nat → Int} {mb bx : Nat} {ks : List Nat} {h0 h : Heap} (t : ThrH M n B mb bx ks h0 h) (z : Nat) : ThrH M n B mb bx ks h0 (h.bump z) :=
  ⟨t.mat.bump z, t.only.bump z, by simp [t.box], by have := t.bn; simp; omega, t.bm, t.bk, t.fr.bump z⟩
theorem ThrH.put {M : List Int} {n : Nat} {A B : Nat → Nat → Int} {mb bx : Nat} {ks : List Nat} {h0 h : Heap} (t : ThrH M n A mb bx ks h0 h) {i k : Nat} (hi : i < n) (hk : ∀ hj : i < ks.length, ks[i] = k) (hB : ∀ a, a ≠ i → B a = A a) : ThrH M n B mb bx ks h0 (h.set k (some (.cells 3 (yCs n (B i))))) := by
  have hl := t.mat.len
  have hkm : k ∈ ks := by rw [← hk (by omega)]; exact List.getElem_mem _
  have hkn := t.mat.lt k hkm
  refine ⟨t.mat.put (B := B) hi hk (by simp) (fun q hq hk => by simp [hk]) (by simp) hB, ⟨by have := t.only.1; simp; omega, fun q h1 h2 => ?_⟩, ?_, by have := t.bn; simp; omega, t.bm, t.bk, t.fr.set _ hkn.1⟩
  · have : q ≠ k := fun e => h2 (by rw [e]; exact hkm)
    simp [this, t.only.2 q h1 h2]
  · have : bx ≠ k := fun e => t.bk (by rw [e]; exact hkm)
    simp [this, t.box]
end Go.Proofs.YtppfjkebamegnaaDoor
/- The numbers of a net are lowered over one mark, by the program: all rows. -/
namespace Go.Proofs.YtppfjkebamegnaaDoor
open Go Go.Em Go.Em.Net
set_option maxRecDepth 100000
theorem Res.fin {o : Option (Ex × St)} {id : Nat} {R : Rc} {rs : List (ResultVar × Bool × Nat)} {P : Ex → St → Prop} {r : Out} {C : Heap → Prop} (h : Res o P)
    (hk : ∀ x s, P x s → ∃ h', endH R rs (blockK id (some (x, s))) = some (r, h') ∧ C h') : ∃ h', endH R rs (blockK id o) = some (r, h') ∧ C h' := by
  obtain ⟨x, s, rfl, p⟩ := h; exact hk x s p
end Go.Proofs.YtppfjkebamegnaaDoor
/- The closure of a graph, by the program. -/
namespace Go.Proofs.YtppfjkebamegnaaDoor
open Go Go.Em Go.Em.Net
set_option maxRecDepth 100000
def lowI (A : Nat → Nat → Int) (m : Mo) : Nat → Nat → Int := updA A m.fr m.to_ (min (A m.fr m.to_) m.mo)
def farN (n : Nat) : Nat → Nat → Int := fun i j => if j = i ∧ i < n then 0 else 1000000000
def initI (n : Nat) (l : List Mo) : Nat → Nat → Int := l.foldl lowI (farN n)
def closI (n : Nat) (A : Nat → Nat → Int) : Nat → Nat → Nat → Int
  | 0 => A
  | k + 1 => stageI n k (closI n A k) n
structure CloH (M : List Int) (B : Nat → Nat → Int) (mb gb rb : Nat) (ks : List Nat) (l : List Mo) (h : Heap) : Prop where
  mat : Mat M.length B mb ks h
  g : h.get gb = some (.cells 83 [intsD M, mosD l])
  r : h.get rb = some (.cells 74 [intsD M, rowS M.length mb])
  gn : gb < h.next
  rn : rb < h.next
  d1 : gb ≠ mb
  d2 : rb ≠ mb
  d3 : gb ∉ ks
  d4 : rb ∉ ks
  fr : h.Fr
theorem CloH.bump {M : List Int} {B : Nat → Nat → Int} {mb gb rb : Nat} {ks : List Nat} {l : List Mo} {h : Heap} (t : CloH M B mb gb rb ks l h) (z : Nat) : CloH M B mb gb rb ks l (h.bump z) :=
  ⟨t.mat.bump z, by simp [t.g], by simp [t.r], by have := t.gn; simp; omega, by have := t.rn; simp; omega, t.d1, t.d2, t.d3, t.d4, t.fr.bump z⟩
theorem CloH.new {M : List Int} {B : Nat → Nat → Int} {mb gb rb : Nat} {ks : List Nat} {l : List Mo} {h : Heap} (t : CloH M B mb gb rb ks l h) {q : Nat} (b : Option Blk) (h1 : ∀ p, p = mb ∨ p = gb ∨ p = rb ∨ p ∈ ks → p ≠ q) (h2 : q < h.next) : CloH M B mb gb rb ks l (h.set q b) := by
  have hm := h1 mb (.inl rfl)
  have hg := h1 gb (.inr (.inl rfl))
  have hr := h1 rb (.inr (.inr (.inl rfl)))
  exact ⟨⟨t.mat.len, by simp [hm, t.mat.top], t.mat.nd, fun q hq => by simpa using t.mat.lt q hq, fun j hj => by simp [h1 _ (.inr (.inr (.inr (List.getElem_mem hj)))), t.mat.row j hj], by simpa using t.mat.mlt⟩, by simp [hg, t.g], by simp [hr, t.r], by simpa using t.gn, by simpa using t.rn, t.d1, t.d2, t.d3, t.d4, t.fr.set _ h2⟩
theorem CloH.step {M : List Int} {A B : Nat → Nat → Int} {mb gb rb : Nat} {ks : List Nat} {l : List Mo} {h h' : Heap} (t : CloH M A mb gb rb ks l h) (m : Mat M.length B mb ks h') (o : Only ks h h') (f : h'.Fr) : CloH M B mb gb rb ks l h' :=
  ⟨m, by rw [o.get t.gn t.d3]; exact t.g, by rw [o.get t.rn t.d4]; exact t.r, Nat.lt_of_lt_of_le t.gn o.1, Nat.lt_of_lt_of_le t.rn o.1, t.d1, t.d2, t.d3, t.d4, f⟩
def C0 (M : List Int) (l : List Mo) (mb gb rb : Nat) (ks : List Nat) (c : Nat) (s : St) : Prop := ∃ (x : Env 41) (h : Heap) (i : Nat), s = ⟨x.l, h, []⟩ ∧ i + c = l.length ∧ x.v 1 = .ptr gb 0 ∧ x.v 2 = .ptr rb 0 ∧ x.v 14 = mosD l ∧ x.v 15 = D.int l.length ∧ x.v 16 = D.int i ∧ CloH M (initI M.length (l.take i)) mb gb rb ks l h
def C1 (M : List Int) (l : List Mo) (mb gb rb : Nat) (ks : List Nat) (c : Nat) (s : St) : Prop := ∃ (x : Env 41) (h : Heap) (i : Nat), s = ⟨x.l, h, []⟩ ∧ i + c = M.length ∧ x.v 2 = .ptr rb 0 ∧ x.v 32 = D.int M.length ∧ x.v 33 = D.int i ∧ CloH M (closI M.length (initI M.length l) i) mb gb rb ks l h
end Go.Proofs.YtppfjkebamegnaaDoor
/- The closure of a graph, by the program: the answer. -/
namespace Go.Proofs.YtppfjkebamegnaaDoor
open Go Go.Em Go.Em.Net
set_option maxRecDepth 100000
def rowsD (n : Nat) (A : Nat → Nat → Int) : D := .sl false ((List.range n).map fun i => .sl false (yCs n (A i)))
theorem yCs_canon (n : Nat) (y : Nat → Int) : D.canonL (yCs n y) = true := canonL_map _ (fun _ => rfl) _
theorem frz_row {h : Heap} {n k d : Nat} {y : Nat → Int} (hg : h.get k = some (.cells 3 (yCs n y))) : frz h (d + 2) (rowS n k) = some (.sl false (yCs n y), [k]) := by
  unfold rowS
  rw [frz_slr, hg, frzS_cells]
  have hle : 0 + n * 1 ≤ (yCs n y).length ∧ 0 < 1 := by rw [yCs_len]; omega
  have htk : ((yCs n y).drop 0).take (n * 1) = yCs n y := List.take_of_length_le (by rw [List.drop_zero, yCs_len]; omega)
  rw [if_pos hle, htk, each_canon h d _ (yCs_canon n y)]
  simp only [Option.map_some]
  rw [chunk_one n _ (yCs_len n y)]
theorem frz_rows {h : Heap} {n d : Nat} : ∀ (ks : List Nat) (A : Nat → Nat → Int), (∀ j, ∀ hj : j < ks.length, h.get ks[j] = some (.cells 3 (yCs n (A j)))) → each (frz h (d + 2)) (ks.map (rowS n)) = some ((List.range ks.length).map fun i => .sl false (yCs n (A i)), ks)
  | [], _, _ => by simp
  | k :: ks, A, hg => by
    have h0 : h.get k = some (.cells 3 (yCs n (A 0))) := hg 0 (by simp)
    have ih := frz_rows (d := d) ks (fun i => A (i + 1)) fun j hj => hg (j + 1) (by simp; omega)
    rw [List.map_cons, each_cons, frz_row h0, ih, eachK_some, List.length_cons, List.range_succ_eq_map, List.map_cons, List.map_map]
    rfl
theorem frz_mat {h : Heap} {n d mb : Nat} {ks : List Nat} {A : Nat → Nat → Int} (m : Mat n A mb ks h) : frz h (d + 3) (rowS n mb) = some (rowsD n A, mb :: ks) := by
  have hl := m.len
  rw [show rowS n mb = D.slr mb 0 n 1 (some n) from rfl, frz_slr, m.top, frzS_cells]
  have hle : 0 + n * 1 ≤ (ks.map (rowS n)).length ∧ 0 < 1 := by simp; omega
  have htk : ((ks.map (rowS n)).drop 0).take (n * 1) = ks.map (rowS n) := List.take_of_length_le (by simp; omega)
  rw [if_pos hle, htk, frz_rows ks A m.row]
  simp only [Option.map_some]
  rw [chunk_one n _ (by simp [hl]), hl]
  rfl
end Go.Proofs.YtppfjkebamegnaaDoor
/- The program's numbers of a net are those of the mathematical one, no bound being 1000000000. -/
namespace Go.Proofs.YtppfjkebamegnaaDoor
open Go Go.Em Go.Em.Net
def enc (o : Option Int) : Int := o.getD 1000000000
def encM (N : Mx) : Nat → Nat → Int := fun a b => enc (N a b)
def Bt (N : Mx) : Prop := ∀ a b z, N a b = some z → -100000000 ≤ z ∧ z ≤ 100000000
theorem enc_far {N : Mx} (h : Bt N) {a b : Nat} : enc (N a b) = 1000000000 ↔ N a b = none := by
  cases e : N a b with
  | none => simp [enc]
  | some z => have := h a b z e; simp [enc]; omega
theorem st_enc {N : Mx} (h : Bt N) {k i j : Nat} {c : Int} (hc : N i k = some c) : stI k i (encM N) j = encM (setM N i j (comb N k i j)) := by
  unfold stI
  by_cases hf : encM N k j = 1000000000
  · have hn : N k j = none := (enc_far h).1 hf
    rw [if_pos hf]
    have : comb N k i j = N i j := by unfold comb; rw [hc, hn]
    rw [this]
    funext a b
    unfold encM setM
    split
    · rename_i e; rw [e.1, e.2]
    · rfl
  · obtain ⟨d, hd⟩ : ∃ d, N k j = some d := by
      cases e : N k j with
      | none => exact absurd (by simp [encM, enc, e]) hf
      | some d => exact ⟨d, rfl⟩
    rw [if_neg hf]
    have b1 := h i k c hc
    have b2 := h k j d hd
    funext a b
    unfold updA encM setM
    split
    · unfold comb
      rw [hc, hd]
      cases e : N i j with
      | none => simp [enc]; omega
      | some z => simp [enc]
    · rfl
theorem rowI_enc {M : Mx} {k i : Nat} {c : Int} (hk : M k k = some 0) (hc : M i k = some c) (h1 : Bt M) (h2 : ∀ b z, comb M k i b = some z → -100000000 ≤ z ∧ z ≤ 100000000) : ∀ J, rowI k i (encM M) J = encM (rowT k i M J) ∧ Bt (rowT k i M J)
  | 0 => ⟨rfl, h1⟩
  | J + 1 => by
    obtain ⟨e, hb⟩ := rowI_enc hk hc h1 h2 J
    have hN : ∃ c', rowT k i M J i k = some c' := by
      rw [rowT_eq hk]
      show ∃ c', (if i = i ∧ k < J then comb M k i k else M i k) = some c'
      rw [comb_col hk, hc]
      exact ⟨c, by split <;> rfl⟩
    obtain ⟨c', hc'⟩ := hN
    refine ⟨?_, fun a b z hz => ?_⟩
    · rw [rowI, e, st_enc hb hc']; rfl
    · rw [rowT_eq hk] at hz
      simp only at hz
      split at hz
      · exact h2 b z hz
      · exact h1 a b z hz
theorem stageI_enc {n k : Nat} {M : Mx} (hk : M k k = some 0) (ho : Out n M) (hkn : k < n) (h1 : Bt M) (h2 : Bt (comb M k)) : ∀ I, stageI n k (encM M) I = encM (stageT n k M I) ∧ Bt (stageT n k M I) ∧ (stageT n k M I) k k = some 0 ∧ Out n (stageT n k M I) ∧ ∀ c, stageT n k M I I k = some c → ∀ b z, comb (stageT n k M I) k I b = some z → -100000000 ≤ z ∧ z ≤ 100000000 := by
  have facts : ∀ I, Bt (stageT n k M I) ∧ (stageT n k M I) k k = some 0 ∧ Out n (stageT n k M I) ∧ ∀ c, stageT n k M I I k = some c → ∀ b z, comb (stageT n k M I) k I b = some z → -100000000 ≤ z ∧ z ≤ 100000000 := by
    intro I
    rw [stageT_eq hk ho hkn I]
    refine ⟨fun a b z hz => ?_, ?_, fun a b hab => ?_, fun c _ b z hz => ?_⟩
    · simp only at hz
      split at hz
      · exact h2 a b z hz
      · exact h1 a b z hz
    · show (if k < I then comb M k k k else M k k) = some 0
      rw [comb_row hk, hk]; split <;> rfl
    · show (if a < I then comb M k a b else M a b) = none
      rw [ho a b hab, ho.comb hkn a b hab]; split <;> rfl
    · have : comb (fun a b => if a < I then comb M k a b else M a b) k I b = comb M k I b := by
        show (match (if I < I then comb M k I k else M I k), (if k < I then comb M k k b else M k b) with
          | some a, some b' => (match (if I < I then comb M k I b else M I b) with | some c => some (min c (a + b')) | none => some (a + b'))
          | _, _ => (if I < I then comb M k I b else M I b)) = _
        have e2 : (if k < I then comb M k k b else M k b) = M k b := by rw [comb_row hk]; split <;> rfl
        rw [e2, if_neg (Nat.lt_irrefl I), if_neg (Nat.lt_irrefl I)]
        rfl
      rw [this] at hz
      exact h2 I b z hz
  intro I
  refine ⟨?_, facts I⟩
  induction I with
  | zero => rfl
  | succ I ih =>
    obtain ⟨b1, b2, b3, b4⟩ := facts I
    rw [stageI, ih]
    by_cases hf : encM (stageT n k M I) I k = 1000000000
    · have hn : stageT n k M I I k = none := (enc_far b1).1 hf
      rw [if_pos hf, stageT, row_full b2 b3 hkn]
      congr 1
      funext a b
      by_cases ha : a = I
      · subst ha
        have : comb (stageT n k M a) k a b = stageT n k M a a b := by unfold comb; rw [hn]
        simp [this]
      · simp [ha]
    · rw [if_neg hf]
      cases hc : stageT n k M I I k with
      | none => exact absurd ((enc_far b1).2 hc) hf
      | some c => exact (rowI_enc b2 hc b1 (b4 c hc) n).1
theorem enc_bd {N : Mx} (h : Bt N) (a b : Nat) : -1000000000000 ≤ encM N a b ∧ encM N a b ≤ 1000000000000 := by
  unfold encM
  cases e : N a b with
  | none => simp [enc]
  | some z => have := h a b z e; simp [enc]; omega
end Go.Proofs.YtppfjkebamegnaaDoor
/- The net of the moves along claims; when claims contradict. -/
namespace Go.Proofs.YtppfjkebamegnaaDoor
open Go Go.Em Go.Em.Net
def E0 (n : Nat) : Mx := fun a b => if b = a ∧ a < n then some 0 else none
def lowV (o : Option Int) (v : Int) : Option Int := match o with
  | none => some v
  | some z => some (min z v)
def lowM (N : Mx) (m : Mo) : Mx := setM N m.fr m.to_ (lowV (N m.fr m.to_) m.mo)
def EF (n : Nat) (l : List Mo) : Mx := l.foldl lowM (E0 n)
structure Kn (n : Nat) (N : Mx) (l : List Mo) : Prop where
  he : ∀ i j c, N i j = some c → (i = j ∧ c = 0) ∨ (i, j, c) ∈ mvs l
  hm : ∀ m ∈ mvs l, ∃ c, N m.1 m.2.1 = some c ∧ c ≤ m.2.2
  out : Out n N
  diag : ∀ i, i < n → N i i = some 0
theorem Kn.low {n : Nat} {N : Mx} {l : List Mo} (k : Kn n N l) {m : Mo} (h1 : m.fr < n) (h2 : m.to_ < n) (h3 : m.fr ≠ m.to_) : Kn n (lowM N m) (l ++ [m]) := by
  have hmv : mvs (l ++ [m]) = mvs l ++ [(m.fr, m.to_, m.mo)] := by unfold mvs; simp
  have hv : ∃ z, lowV (N m.fr m.to_) m.mo = some z ∧ z ≤ m.mo := by
    unfold lowV; split
    · exact ⟨_, rfl, Int.le_refl _⟩
    · exact ⟨_, rfl, by omega⟩
  refine ⟨fun i j c hc => ?_, fun x hx => ?_, fun a b hab => ?_, fun i hi => ?_⟩
  · unfold lowM setM at hc
    rw [hmv]
    split at hc
    · rename_i e
      unfold lowV at hc
      split at hc
      · obtain rfl := Option.some.inj hc
        exact .inr (by simp [e.1, e.2])
      · rename_i z hz
        have hcz := Option.some.inj hc
        by_cases hmin : z ≤ m.mo
        · have : c = z := by omega
          rcases k.he m.fr m.to_ z hz with ⟨e1, _⟩ | e1
          · exact absurd e1 h3
          · exact .inr (by rw [e.1, e.2, this]; exact List.mem_append_left _ e1)
        · have : c = m.mo := by omega
          exact .inr (by simp [e.1, e.2, this])
    · rcases k.he i j c hc with e | e
      · exact .inl e
      · exact .inr (List.mem_append_left _ e)
  · rw [hmv] at hx
    rcases List.mem_append.1 hx with hx | hx
    · obtain ⟨c, hc, hcl⟩ := k.hm x hx
      unfold lowM setM
      split
      · rename_i e
        rw [e.1, e.2] at hc
        unfold lowV
        rw [hc]
        exact ⟨_, rfl, by omega⟩
      · exact ⟨c, hc, hcl⟩
    · obtain rfl : x = (m.fr, m.to_, m.mo) := by simpa using hx
      obtain ⟨z, hz, hzl⟩ := hv
      exact ⟨z, by unfold lowM setM; simp [hz], hzl⟩
  · unfold lowM setM
    rw [if_neg (fun e => hab (by rw [e.1, e.2]; exact ⟨h1, h2⟩))]
    exact k.out a b hab
  · unfold lowM setM
    rw [if_neg (fun e => h3 (by rw [← e.1, ← e.2]))]
    exact k.diag i hi
theorem Kn.fold {n : Nat} : ∀ (l : List Mo) {N : Mx} {l0 : List Mo}, Kn n N l0 → (∀ m ∈ l, m.fr < n ∧ m.to_ < n ∧ m.fr ≠ m.to_) → Kn n (l.foldl lowM N) (l0 ++ l)
  | [], _, l0, k, _ => by rw [List.append_nil]; exact k
  | m :: l, N, l0, k, h => by
    obtain ⟨h1, h2, h3⟩ := h m List.mem_cons_self
    have := Kn.fold l (k.low h1 h2 h3) fun x hx => h x (List.mem_cons_of_mem _ hx)
    rwa [List.append_assoc] at this
theorem kn_EF {n : Nat} {l : List Mo} (h : ∀ m ∈ l, m.fr < n ∧ m.to_ < n ∧ m.fr ≠ m.to_) : Kn n (EF n l) l := by
  have k0 : Kn n (E0 n) [] := by
    refine ⟨fun i j c hc => ?_, fun m hm => absurd hm List.not_mem_nil, fun a b hab => ?_, fun i hi => by simp [E0, hi]⟩
    · unfold E0 at hc
      split at hc
      · rename_i e; exact .inl ⟨e.1.symm, (Option.some.inj hc).symm⟩
      · cases hc
    · unfold E0; rw [if_neg (fun e => hab ⟨e.2, by rw [e.1]; exact e.2⟩)]
  exact Kn.fold l k0 h
theorem low_enc {N : Mx} (h : Bt N) {m : Mo} (h1 : -100000 ≤ m.mo) (h2 : m.mo ≤ 100000) : lowI (encM N) m = encM (lowM N m) ∧ Bt (lowM N m) := by
  constructor
  · funext a b
    unfold lowI updA encM lowM setM
    split
    · unfold lowV
      cases e : N m.fr m.to_ with
      | none => simp [enc]; omega
      | some z => simp [enc]
    · rfl
  · intro a b z hz
    unfold lowM setM at hz
    split at hz
    · unfold lowV at hz
      split at hz
      · have := Option.some.inj hz; omega
      · rename_i y hy
        have := Option.some.inj hz
        have := h _ _ y hy
        omega
    · exact h a b z hz
theorem init_enc : ∀ (l : List Mo) (N : Mx), Bt N → (∀ m ∈ l, -100000 ≤ m.mo ∧ m.mo ≤ 100000) → l.foldl lowI (encM N) = encM (l.foldl lowM N)
  | [], _, _, _ => rfl
  | m :: l, N, h, hl => by
    obtain ⟨h1, h2⟩ := hl m List.mem_cons_self
    obtain ⟨e, b⟩ := low_enc h h1 h2
    rw [List.foldl_cons, List.foldl_cons, e]
    exact init_enc l _ b fun x hx => hl x (List.mem_cons_of_mem _ hx)
theorem initI_enc (n : Nat) (l : List Mo) (hl : ∀ m ∈ l, -100000 ≤ m.mo ∧ m.mo ≤ 100000) : initI n l = encM (EF n l) := by
  have h0 : farN n = encM (E0 n) := by
    funext a b
    unfold farN encM E0 enc
    split <;> rfl
  unfold initI EF
  rw [h0]
  exact init_enc l _ (fun a b z hz => by
    unfold E0 at hz
    split at hz
    · have := Option.some.inj hz; omega
    · cases hz) hl
structure Good (n : Nat) (l : List Mo) : Prop where
  hin : ∀ m ∈ l, m.fr < n ∧ m.to_ < n ∧ m.fr ≠ m.to_
  bd : ∀ m ∈ l, -100000 ≤ m.mo ∧ m.mo ≤ 100000
  sym : ∀ m ∈ l, ∃ m' ∈ l, m'.fr = m.to_ ∧ m'.to_ = m.fr
theorem Good.symE {n : Nat} {l : List Mo} (g : Good n l) (i j : Nat) (h : EF n l i j ≠ none) : EF n l j i ≠ none := by
  have k := kn_EF g.hin
  obtain ⟨c, hc⟩ := Option.ne_none_iff_exists'.1 h
  rcases k.he i j c hc with ⟨rfl, _⟩ | hm
  · exact h
  · obtain ⟨m, hm1, hm2⟩ := List.mem_map.1 hm
    obtain ⟨m', h1, h2, h3⟩ := g.sym m hm1
    obtain ⟨c', hc', _⟩ := k.hm (m'.fr, m'.to_, m'.mo) (List.mem_map.2 ⟨m', h1, rfl⟩)
    have e1 : m.fr = i := by rw [← (Prod.mk.inj hm2).1]
    have e2 : m.to_ = j := by rw [← (Prod.mk.inj (Prod.mk.inj hm2).2).1]
    simp only [h2, h3, e1, e2] at hc'
    rw [hc']; simp
theorem Good.con {M : List Int} {l : List Mo} (g : Good M.length l) : conF M l = false ↔ ∀ k, k ≤ M.length → ∀ i, i < M.length → fw (EF M.length l) k i i = some 0 := by
  have k := kn_EF g.hin
  have hin : ∀ m ∈ mvs l, m.1 < M.length ∧ m.2.1 < M.length := fun m hm => by
    obtain ⟨x, hx, rfl⟩ := List.mem_map.1 hm
    exact ⟨(g.hin x hx).1, (g.hin x hx).2.1⟩
  constructor
  · intro h q _ i hi
    unfold conF at h
    rw [decide_eq_true (show 0 < M.length by omega), Bool.true_and] at h
    exact diag_of_rest k.diag k.he h q hi
  · intro hd
    unfold conF
    by_cases h0 : 0 < M.length
    · have hr : allChg (mvs l) M.length z0 = false := rest_of_diag hin k.he k.hm h0 hd
      rw [hr, Bool.and_false]
    · rw [decide_eq_false h0, Bool.false_and]
end Go.Proofs.YtppfjkebamegnaaDoor
/- The closure of claims, by the program. -/
namespace Go.Proofs.YtppfjkebamegnaaDoor
open Go Go.Em Go.Em.Net
set_option maxRecDepth 100000
theorem movs_mem {M : List Int} : ∀ {l : List Clm} {i : Nat} {m : Mo}, m ∈ movsF M i l → ∃ c ∈ l, ∃ j, m ∈ movF M j c ∧ ∀ m' ∈ movF M j c, m' ∈ movsF M i l
  | [], _, _, h => absurd h List.not_mem_nil
  | a :: l, i, m, h => by
    rcases List.mem_append.1 h with h | h
    · exact ⟨a, List.mem_cons_self, i, h, fun m' hm => List.mem_append_left _ hm⟩
    · obtain ⟨c, hc, j, h1, h2⟩ := movs_mem h
      exact ⟨c, List.mem_cons_of_mem _ hc, j, h1, fun m' hm => List.mem_append_right _ (h2 m' hm)⟩
theorem ok_differ {c : Clm} (h : okF c = true) : c.a ≠ c.b := by
  unfold okF at h
  simp only [Bool.and_eq_true, bne_iff_ne] at h
  exact h.1.1.1.2
theorem good_movs {l : List Clm} (h0 : chkF l = 0) : Good (marksF l).length (movsF (marksF l) 0 l) := by
  obtain ⟨hl1, hl2, hl3⟩ := chk_ok h0
  have pl : ∀ c ∈ l, placeF (marksF l) c.a < (marksF l).length ∧ placeF (marksF l) c.b < (marksF l).length ∧ placeF (marksF l) c.a ≠ placeF (marksF l) c.b := by
    intro c hc
    obtain ⟨a1, a2⟩ := place_at ((marks_mem l c.a).2 ⟨c, hc, .inl rfl⟩)
    obtain ⟨b1, b2⟩ := place_at ((marks_mem l c.b).2 ⟨c, hc, .inr rfl⟩)
    refine ⟨a1, b1, fun e => ok_differ (hl2 c hc) ?_⟩
    rw [← a2, ← b2]
    simp only [e]
  refine ⟨fun m hm => ?_, fun m hm => ?_, fun m hm => ?_⟩
  · obtain ⟨c, hc, j, h1, _⟩ := movs_mem hm
    obtain ⟨p1, p2, p3⟩ := pl c hc
    rcases (by simpa [movF] using h1 : m = _ ∨ m = _) with rfl | rfl
    · exact ⟨p1, p2, p3⟩
    · exact ⟨p2, p1, Ne.symm p3⟩
  · obtain ⟨c, hc, j, h1, _⟩ := movs_mem hm
    have := ok_years (hl2 c hc)
    rcases (by simpa [movF] using h1 : m = _ ∨ m = _) with rfl | rfl
    · simp only; omega
    · simp only; omega
  · obtain ⟨c, hc, j, h1, h2⟩ := movs_mem hm
    rcases (by simpa [movF] using h1 : m = _ ∨ m = _) with rfl | rfl
    · exact ⟨_, h2 ⟨j, true, placeF (marksF l) c.b, placeF (marksF l) c.a, -c.lo⟩ (by simp [movF]), rfl, rfl⟩
    · exact ⟨_, h2 ⟨j, false, placeF (marksF l) c.a, placeF (marksF l) c.b, c.hi⟩ (by simp [movF]), rfl, rfl⟩
def netF (l : List Clm) : Mx := EF (marksF l).length (movsF (marksF l) 0 l)
def cloF (l : List Clm) : Mx := fw (netF l) (marksF l).length
def badF (l : List Clm) : Bool := conF (marksF l) (movsF (marksF l) 0 l)
theorem bad_iff {l : List Clm} (h0 : chkF l = 0) : badF l = false ↔ ∀ k, k ≤ (marksF l).length → ∀ i, i < (marksF l).length → fw (netF l) k i i = some 0 := (good_movs h0).con
end Go.Proofs.YtppfjkebamegnaaDoor
