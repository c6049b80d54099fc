/- Years that are lowered round by round, by the program: which move lowered each mark last. -/
import Derived.Test.YtfemldhlanoakaaGreatDoorMul
import Derived.Test.YtfemldhlanoakaaGreatDoorEmNet
namespace Go.Proofs.YtfemldhlanoakaaGreatDoor
open Go Go.Em Go.Em.Net
set_option maxRecDepth 100000
/-- The mark that was lowered last, if there is one. -/
def Lv (late : Int) (n r : Nat) (L : Nat → Nat) : Prop := late ≠ -1 → ∃ v : Nat, late = v ∧ v < n ∧ L v = r
/-- The move that lowered a mark last. -/
def pOf (l : List Mo) (bl : List Int) (v : Nat) : Option Mv := if bl.getD v (-1) < 0 then none else (mvs l)[(bl.getD v (-1)).toNat]?
theorem pOf_set {l : List Mo} {bl : List Int} {t i : Nat} {m : Mv} (ht : t < bl.length) (hi : (mvs l)[i]? = some m) : pOf l (bl.set t i) = fun v => if v = t then some m else pOf l bl v := by
  funext v
  unfold pOf
  by_cases e : v = t
  · subst e
    have : (bl.set v (i : Int)).getD v (-1) = i := by simp [List.getD_eq_getElem?_getD, ht]
    rw [this, if_neg (by omega), if_pos rfl]
    simpa using hi
  · have : (bl.set t (i : Int)).getD v (-1) = bl.getD v (-1) := by
      simp [List.getD_eq_getElem?_getD, List.getElem?_set, show ¬ t = v from fun h => e h.symm]
    rw [this, if_neg e]
theorem pOf_none {l : List Mo} (n : Nat) : pOf l (List.replicate n (-1)) = fun _ => none := by
  funext v
  unfold pOf
  have : (List.replicate n (-1 : Int)).getD v (-1) = -1 := by
    rw [List.getD_eq_getElem?_getD, List.getElem?_replicate]
    split <;> rfl
  rw [if_pos (by omega)]
def Hb (M : List Int) (l : List Mo) (gb yb bb n : Nat) (y : Nat → Int) (bl : List Int) (h : Heap) : Prop := h.get gb = some (.cells 87 [intsD M, mosD l]) ∧ h.get yb = some (.cells 3 (yCs n y)) ∧ (bl.length = n ∧ h.get bb = some (.cells 3 (bl.map D.int))) ∧ gb < h.next ∧ yb < h.next ∧ bb < h.next ∧ h.Fr
def RgI (M : List Int) (l : List Mo) (gb yb bb n r s0 : Nat) (y0 : Nat → Int) (k : Nat) (s : St) : Prop := ∃ (x : Env 63) (h : Heap) (i : Nat) (late : Int) (bl : List Int) (L : Nat → Nat), s = ⟨x.l, h, []⟩ ∧ i + k = l.length ∧ Kl gb yb bb n x ∧ x.v 20 = D.int r ∧ x.v 23 = mosD l ∧ x.v 24 = D.int l.length ∧ x.v 25 = D.int i ∧ x.v 3 = D.int late ∧ (late = -1 ↔ chg (mvs (l.take i)) y0 = false) ∧ Bd (100000 * (s0 + i : Nat)) ((mvs (l.take i)).foldl relax y0) ∧ Hb M l gb yb bb n ((mvs (l.take i)).foldl relax y0) bl h ∧ Ring (mvs l) ((mvs (l.take i)).foldl relax y0) (pOf l bl) L (r + 1) i ∧ Lv late n (r + 1) L
set_option maxHeartbeats 8000000 in
theorem rg_round (M : List Int) (l : List Mo) (gb yb bb n r s0 : Nat) (y0 : Nat → Int) (hd1 : gb ≠ yb) (hd2 : gb ≠ bb) (hd3 : yb ≠ bb) (hs0 : s0 ≤ 60000) (hl : l.length ≤ 800) (hin : ∀ m ∈ l, m.fr < n ∧ m.to_ < n ∧ m.fr ≠ m.to_ ∧ -100000 ≤ m.mo ∧ m.mo ≤ 100000) :
    ∀ f, 0 ≤ f → ∀ k s, RgI M l gb yb bb n r s0 y0 k s → Res (k81l0.ev ⟨pg, 63, none⟩ (rc pg f) s) (Rnd (RgI M l gb yb bb n r s0 y0) (fun x s => x = .exit 2 ∧ RgI M l gb yb bb n r s0 y0 0 s) k) := by
  rintro f hf k s ⟨x, h, i, late, bl, L, rfl, hik, ⟨v1, v2, v4, v19⟩, v20, v23, v24, v25, v3, hlate, hbd, ⟨hg, hy, ⟨hbl, hb⟩, gn, yn, bn, hfr'⟩, hrg, hlv⟩
  simp only [mosD] at v23
  by_cases hi : i < l.length
  · obtain ⟨c, hc⟩ : ∃ c, l[i] = c := ⟨_, rfl⟩
    obtain ⟨hf1, hf2, hfne, hf3, hf4⟩ := hin c (by rw [← hc]; exact List.getElem_mem hi)
    obtain ⟨y, hyd⟩ : ∃ y, y = (mvs (l.take i)).foldl relax y0 := ⟨_, rfl⟩
    rw [← hyd] at hbd hy hrg
    have hmi : (mvs l)[i]? = some (c.fr, c.to_, c.mo) := by
      unfold mvs
      rw [List.getElem?_map, List.getElem?_eq_getElem hi, hc]; rfl
    have htk : mvs (l.take (i + 1)) = mvs (l.take i) ++ [(c.fr, c.to_, c.mo)] := by
      unfold mvs
      rw [List.take_add_one, List.getElem?_eq_getElem hi, hc]; simp
    have hy1 : (mvs (l.take (i + 1))).foldl relax y0 = relax y (c.fr, c.to_, c.mo) := by rw [htk, List.foldl_append, ← hyd]; rfl
    have hch : chg (mvs (l.take (i + 1))) y0 = (chg (mvs (l.take i)) y0 || decide (y c.fr + c.mo < y c.to_)) := by rw [htk, chg_snoc, ← hyd]
    have hbd1 := hbd.relax (m := (c.fr, c.to_, c.mo)) hf3
    have w1 : IntKind.i64.wrap ((i : Int) + 1) = (i : Int) + 1 := wrap_i64 (by omega) (by omega)
    have w2 : IntKind.i64.wrap (y c.fr + c.mo) = y c.fr + c.mo := by
      have := hbd c.fr
      exact wrap_i64 (by omega) (by omega)
    have hfr : ∀ j, h.raw (h.next + j) = none := fun j => hfr' _ (by omega)
    have n1 : ∀ j, (gb = h.next + j) = False := fun j => by simp; omega
    have n2 : ∀ j, (yb = h.next + j) = False := fun j => by simp; omega
    have n3 : ∀ j, (bb = h.next + j) = False := fun j => by simp; omega
    have n4 : (bb = yb) = False := by simp; omega
    have n5 : (gb = yb) = False := by simp [hd1]
    have n6 : (gb = bb) = False := by simp [hd2]
    have m2 : ∀ j, (h.next + j = yb) = False := fun j => by simp; omega
    have m3 : ∀ j, (h.next + j = bb) = False := fun j => by simp; omega
    have m4 : (yb = bb) = False := by simp [hd3]
    have hyl := yCs_len n y
    have hy2 : ∀ h' : c.fr < (yCs n y).length, (yCs n y)[c.fr]'h' = D.int (y c.fr) := fun h' => Option.some.inj (by rw [← List.getElem?_eq_getElem h']; exact yCs_get hf1)
    have hy3 : ∀ h' : c.to_ < (yCs n y).length, (yCs n y)[c.to_]'h' = D.int (y c.to_) := fun h' => Option.some.inj (by rw [← List.getElem?_eq_getElem h']; exact yCs_get hf2)
    have hle1 : c.fr + 1 ≤ n := hf1
    have hle2 : c.to_ + 1 ≤ n := hf2
    have hst : (yCs n y).take c.to_ ++ D.int (y c.fr + c.mo) :: (yCs n y).drop (c.to_ + 1) = yCs n (fun v => if v = c.to_ then y c.fr + c.mo else y v) := by
      rw [← yCs_set, List.set_eq_take_append_cons_drop, if_pos (by rw [hyl]; exact hf2)]
    by_cases hlt : y c.fr + c.mo < y c.to_
    · simp [k81l0, v1, v2, v4, v20, v23, v24, v25, v3, hi, hc, moD, moC, D.cells, D.one, hfr, Nat.add_assoc, hg, hy, hb, n1, n2, n3, n4, n5, n6, m2, m3, m4, hf1, hf2, hle1, hle2, hyl, hy2, hy3, hst, hbl, w1, w2, hlt]
      have hrel : relax y (c.fr, c.to_, c.mo) = fun v => if v = c.to_ then y c.fr + c.mo else y v := by unfold relax; rw [if_pos hlt]
      refine ⟨k - 1, by omega, _, _, i + 1, (c.to_ : Int), bl.set c.to_ i, fun v => if v = c.to_ then r + 1 else L v, rfl, by omega, ⟨by simp [v1], by simp [v2], by simp [v4], by simp [v19]⟩, by simp [v20], by simp [v23, mosD], by simp [v24], by simp, by simp, ?_, ?_, ?_, ?_, fun _ => ⟨c.to_, rfl, hf2, by simp⟩⟩
      · rw [hch, decide_eq_true hlt]
        simp
      · rw [hy1]
        have : (100000 * ((s0 + (i + 1) : Nat) : Int)) = 100000 * ((s0 + i : Nat) : Int) + 100000 := by omega
        rw [this]; exact hbd1
      · rw [hy1, hrel]
        refine ⟨by simp [n1, n5, n6, hg], by simp [n2, m4], ⟨by simp [hbl], ?_⟩, by simp; omega, by simp; omega, by simp; omega, ?_⟩
        · rw [List.set_eq_take_append_cons_drop, if_pos (by omega)]
          simp
        · repeat' first | exact hfr' | apply Heap.Fr.bump | apply Heap.Fr.set
          all_goals (simp <;> omega)
      · rw [hy1, hrel, pOf_set (by omega) hmi]
        exact hrg.step hmi hfne hlt
    · have hrel : relax y (c.fr, c.to_, c.mo) = y := by unfold relax; rw [if_neg hlt]
      simp [k81l0, v1, v2, v4, v20, v23, v24, v25, v3, hi, hc, moD, moC, D.cells, D.one, hfr, Nat.add_assoc, hg, hy, hb, n1, n2, n3, n4, n5, n6, m2, m3, m4, hf1, hf2, hle1, hle2, hyl, hy2, hy3, hst, hbl, w1, w2, hlt]
      refine ⟨k - 1, by omega, _, _, i + 1, late, bl, L, rfl, by omega, ⟨by simp [v1], by simp [v2], by simp [v4], by simp [v19]⟩, by simp [v20], by simp [v23, mosD], by simp [v24], by simp, by simp [v3], ?_, ?_, ?_, ?_, hlv⟩
      · rw [hch, decide_eq_false hlt, Bool.or_false]
        exact hlate
      · rw [hy1, hrel]
        intro v
        have := hbd v
        omega
      · rw [hy1, hrel]
        refine ⟨by simp [n1, hg], by simp [n2, hy], ⟨hbl, by simp [n3, hb]⟩, by simp; omega, by simp; omega, by simp; omega, ?_⟩
        repeat' first | exact hfr' | apply Heap.Fr.bump | apply Heap.Fr.set
        all_goals (simp <;> omega)
      · rw [hy1, hrel]
        exact hrg.quiet hmi hlt
  · simp [k81l0, v24, v25, hi]
    refine ⟨_, _, i, late, bl, L, rfl, by omega, ⟨by simp [v1], by simp [v2], by simp [v4], by simp [v19]⟩, by simp [v20], by simp [v23, mosD], by simp [v24], by simp [v25], by simp [v3], hlate, hbd, ⟨by simp [hg], by simp [hy], ⟨hbl, by simp [hb]⟩, by simp; omega, by simp; omega, by simp; omega, hfr'.bump _⟩, hrg, hlv⟩
end Go.Proofs.YtfemldhlanoakaaGreatDoor
/- Years that are lowered round by round, by the program: all rounds, and which move lowered each mark last. -/
namespace Go.Proofs.YtfemldhlanoakaaGreatDoor
open Go Go.Em Go.Em.Net
set_option maxRecDepth 100000
def RgO (M : List Int) (l : List Mo) (gb yb bb n : Nat) (k : Nat) (s : St) : Prop := ∃ (x : Env 63) (h : Heap) (r : Nat) (late : Int) (bl : List Int) (L : Nat → Nat), s = ⟨x.l, h, []⟩ ∧ r + k = n ∧ Kl gb yb bb n x ∧ x.v 20 = D.int r ∧ x.v 3 = D.int late ∧ allChg (mvs l) r z0 = true ∧ (late = -1 ↔ r = 0) ∧ Bd (100000 * (r * l.length : Nat)) (its (mvs l) r z0) ∧ Hb M l gb yb bb n (its (mvs l) r z0) bl h ∧ Ring (mvs l) (its (mvs l) r z0) (pOf l bl) L (r + 1) 0 ∧ Lv late n r L
def RgQ (M : List Int) (l : List Mo) (gb yb bb n : Nat) (x : Ex) (s : St) : Prop := x = .exit 0 ∧ ∃ (x : Env 63) (h : Heap) (late : Int) (y : Nat → Int) (bl : List Int), s = ⟨x.l, h, []⟩ ∧ Kl gb yb bb n x ∧ x.v 3 = D.int late ∧ (late = -1 ↔ ¬ (0 < n ∧ allChg (mvs l) n z0 = true)) ∧ Hb M l gb yb bb n y bl h ∧ (late ≠ -1 → ∃ (v : Nat) (L : Nat → Nat), late = v ∧ v < n ∧ L v = n ∧ Ring (mvs l) y (pOf l bl) L (n + 1) 0)
def RgP (M : List Int) (l : List Mo) (gb yb bb n r : Nat) (x : Ex) (s : St) : Prop := (x = .normal ∧ chg (mvs l) (its (mvs l) r z0) = true ∨ x = .exit 0 ∧ chg (mvs l) (its (mvs l) r z0) = false) ∧ ∃ (x : Env 63) (h : Heap) (late : Int) (bl : List Int) (L : Nat → Nat), s = ⟨x.l, h, []⟩ ∧ Kl gb yb bb n x ∧ x.v 20 = D.int r ∧ x.v 3 = D.int late ∧ (late = -1 ↔ chg (mvs l) (its (mvs l) r z0) = false) ∧ Bd (100000 * (r * l.length + l.length : Nat)) ((mvs l).foldl relax (its (mvs l) r z0)) ∧ Hb M l gb yb bb n ((mvs l).foldl relax (its (mvs l) r z0)) bl h ∧ Ring (mvs l) ((mvs l).foldl relax (its (mvs l) r z0)) (pOf l bl) L (r + 1) l.length ∧ Lv late n (r + 1) L
set_option maxHeartbeats 8000000 in
theorem rg_rounds (M : List Int) (l : List Mo) (gb yb bb n : Nat) (hd1 : gb ≠ yb) (hd2 : gb ≠ bb) (hd3 : yb ≠ bb) (hn : n ≤ 64) (hl : l.length ≤ 800) (hin : ∀ m ∈ l, m.fr < n ∧ m.to_ < n ∧ m.fr ≠ m.to_ ∧ -100000 ≤ m.mo ∧ m.mo ≤ 100000) :
    ∀ f, 802 ≤ f → ∀ k s, RgO M l gb yb bb n k s → Res (k81l1.ev ⟨pg, 63, none⟩ (rc pg f) s) (Rnd (RgO M l gb yb bb n) (RgQ M l gb yb bb n) k) := by
  rintro f hf k s ⟨x, h, r, late, bl, L, rfl, hrk, ⟨v1, v2, v4, v19⟩, v20, v3, hall, hlate, hbd, ⟨hg, hy, ⟨hbl, hb⟩, gn, yn, bn, hfr'⟩, hrg, hlv⟩
  have hrl : r * l.length ≤ 64 * 800 := Nat.mul_le_mul (by omega) hl
  by_cases hr : r < n
  · have w1 : IntKind.i64.wrap ((r : Int) + 1) = (r : Int) + 1 := wrap_i64 (by omega) (by omega)
    have hfr : ∀ j, h.raw (h.next + j) = none := fun j => hfr' _ (by omega)
    have hm1 : IntKind.i64.wrap (-1) = -1 := by decide
    simp [k81l1, v1, v2, v4, v19, v20, v3, hr, hg, mosD, D.cells, D.one, ev_loop]
    have mt : mvs (l.take 0) = [] := rfl
    refine Res.after (P := RgP M l gb yb bb n r) (Res.after (P := fun x s => x = .exit 2 ∧ RgI M l gb yb bb n r (r * l.length) (its (mvs l) r z0) 0 s) (lp_rule 0 (RgI M l gb yb bb n r (r * l.length) (its (mvs l) r z0)) _ (rg_round M l gb yb bb n r (r * l.length) (its (mvs l) r z0) hd1 hd2 hd3 (by omega) hl hin) l.length f _ (by omega)
      ⟨_, _, 0, -1, bl, L, rfl, by omega, ⟨by simp [v1], by simp [v2], by simp [v4], by simp [v19]⟩, by simp [v20], by simp [mosD], by simp, by simp, by simp, by rw [mt]; simp [chg], by rw [mt]; simpa using hbd, ?_, by rw [mt]; exact hrg, fun e => absurd rfl e⟩) ?_) ?_
    · rw [mt]
      refine ⟨by simp [hg], by simp [hy], ⟨hbl, by simp [hb]⟩, by simp; omega, by simp; omega, by simp; omega, ?_⟩
      repeat' first | exact hfr' | apply Heap.Fr.bump | apply Heap.Fr.set
    · rintro x' s' ⟨rfl, x, h, i, late, bl, L, rfl, hi, ⟨v1, v2, v4, v19⟩, v20, v23, v24, v25, v3, hlate, hbd, ⟨hg, hy, ⟨hbl, hb⟩, gn, yn, bn, hfr'⟩, hrg, hlv⟩
      have hil : i = l.length := by omega
      subst hil
      rw [List.take_length] at hlate hbd hy hrg
      have hH : ∀ m, Hb M l gb yb bb n ((mvs l).foldl relax (its (mvs l) r z0)) bl (h.bump m) := fun m => ⟨by simp [hg], by simp [hy], ⟨hbl, by simp [hb]⟩, by simp; omega, by simp; omega, by simp; omega, hfr'.bump _⟩
      by_cases hl1 : late = -1
      · simp [v3, hl1]
        exact ⟨.inr ⟨rfl, hlate.1 hl1⟩, _, _, late, bl, L, rfl, ⟨by simp [v1], by simp [v2], by simp [v4], by simp [v19]⟩, by simp [v20], by simp [v3], hlate, hbd, hH _, hrg, hlv⟩
      · have hc : chg (mvs l) (its (mvs l) r z0) = true := by
          cases hc : chg (mvs l) (its (mvs l) r z0) with
          | true => rfl
          | false => exact absurd (hlate.2 hc) hl1
        have hl2 : (late == -1) = false := by simp [hl1]
        simp [-beq_eq_false_iff_ne, v3, hl2]
        exact ⟨.inl ⟨rfl, hc⟩, _, _, late, bl, L, rfl, ⟨by simp [v1], by simp [v2], by simp [v4], by simp [v19]⟩, by simp [v20], by simp [v3], hlate, hbd, hH _, hrg, hlv⟩
    · rintro x' s' ⟨hx, x, h, late, bl, L, rfl, ⟨v1, v2, v4, v19⟩, v20, v3, hlate, hbd, ⟨hg, hy, ⟨hbl, hb⟩, gn, yn, bn, hfr'⟩, hrg, hlv⟩
      have hsn := all_snoc (mvs l) r z0
      rw [hall, Bool.true_and] at hsn
      rcases hx with ⟨rfl, hc⟩ | ⟨rfl, hc⟩
      · have hl1 : late ≠ -1 := fun e => by rw [hlate.1 e] at hc; cases hc
        rw [hc] at hsn
        simp [v20, w1]
        refine ⟨k - 1, by omega, _, _, r + 1, late, bl, L, rfl, by omega, ⟨by simp [v1], by simp [v2], by simp [v4], by simp [v19]⟩, by simp, by simp [v3], hsn, ⟨fun e => absurd e hl1, fun e => absurd e (by omega)⟩, ?_, ?_, ?_, hlv⟩
        · rw [its_snoc, Nat.succ_mul]; exact hbd
        · rw [its_snoc]
          exact ⟨by simp [hg], by simp [hy], ⟨hbl, by simp [hb]⟩, by simp; omega, by simp; omega, by simp; omega, hfr'.bump _⟩
        · rw [its_snoc]
          have hml : l.length = (mvs l).length := by simp [mvs]
          rw [hml] at hrg
          exact hrg.next
      · rw [hc] at hsn
        have hno := all_more (mvs l) (r + 1) z0 hsn (n - (r + 1))
        rw [show r + 1 + (n - (r + 1)) = n by omega] at hno
        simp
        exact ⟨rfl, _, _, late, _, bl, rfl, ⟨v1, v2, v4, v19⟩, v3, ⟨fun _ => (by rw [hno]; simp), fun _ => hlate.2 hc⟩, ⟨hg, hy, ⟨hbl, hb⟩, gn, yn, bn, hfr'⟩, fun e => absurd (hlate.2 hc) e⟩
  · have hr' : r = n := by omega
    subst hr'
    simp [k81l1, v19, v20]
    refine ⟨rfl, _, _, late, its (mvs l) r z0, bl, rfl, ⟨by simp [v1], by simp [v2], by simp [v4], by simp [v19]⟩, by simp [v3], ?_, ⟨by simp [hg], by simp [hy], ⟨hbl, by simp [hb]⟩, by simp; omega, by simp; omega, by simp; omega, hfr'.bump _⟩, fun e => by obtain ⟨v, a1, a2, a3⟩ := hlv e; exact ⟨v, L, a1, a2, a3, hrg⟩⟩
    rw [hlate, hall]
    simp
end Go.Proofs.YtfemldhlanoakaaGreatDoor
/- Years that are lowered round by round, by the program: the function, and which move lowered each mark last. -/
namespace Go.Proofs.YtfemldhlanoakaaGreatDoor
open Go Go.Em Go.Em.Net
set_option maxRecDepth 100000
/-- What the function of rounds tells. -/
def RgOut (M : List Int) (l : List Mo) (o : Out) : Prop := ∃ (bl : List Int) (late : Int), o = .ret (.tup [intsD bl, D.int late]) ∧ (late = -1 ↔ ¬ (0 < M.length ∧ allChg (mvs l) M.length z0 = true)) ∧ (late ≠ -1 → bl.length = M.length ∧ ∃ (v : Nat) (L : Nat → Nat) (y : Nat → Int), late = v ∧ v < M.length ∧ L v = M.length ∧ Ring (mvs l) y (pOf l bl) L (M.length + 1) 0)
set_option maxHeartbeats 4000000 in
theorem rg_run (M : List Int) (l : List Mo) (hn : M.length ≤ 64) (hl : l.length ≤ 800) (hin : ∀ m ∈ l, m.fr < M.length ∧ m.to_ < M.length ∧ m.fr ≠ m.to_ ∧ -100000 ≤ m.mo ∧ m.mo ≤ 100000) {f : Nat} (hf : 1000 ≤ f) : ∃ o, pureCall (rc pg f) 81 [grD M l] = some o ∧ RgOut M l o := by
  by_cases h0 : M.length = 0
  · have hM : M = [] := List.eq_nil_of_length_eq_zero h0
    have hL : l = [] := by
      cases l with
      | nil => rfl
      | cons a _ => have := (hin a List.mem_cons_self).1; omega
    subst hM; subst hL
    obtain ⟨m, rfl⟩ := more_of (show 10 ≤ f by omega)
    exact ⟨_, low_nil m, [], -1, rfl, by simp, fun e => absurd rfl e⟩
  · obtain ⟨m, rfl, e⟩ := body (pg := pg) (f := 81) (args := [grD M l]) (show 0 < f by omega) rfl rfl
    rw [e]
    have s82 : pg.sh 102 = true := rfl
    have hroom : (8 : Int) * M.length ≤ (room : Int) := by unfold room; omega
    have hz : zerosD [.int .i64 0] 1 M.length = List.replicate M.length (D.int 0) := by
      unfold zerosD
      refine List.eq_replicate_iff.2 ⟨by simp, fun b hb => ?_⟩
      obtain ⟨i, _, rfl⟩ := List.mem_map.1 hb
      simp [Nat.mod_one]
    have hz1 : zerosD [.int .i64 0] 1 1 = [D.int 0] := rfl
    have hm1 : IntKind.i64.wrap (-1) = -1 := by decide
    obtain ⟨H, hH⟩ : ∃ H, H = ((((((Heap.empty.bump 63).set 1 (some (.cells 87 [intsD M, mosD l]))).bump 63).set 74 (some (.cells 3 (List.replicate M.length (D.int 0))))).bump 63).set 138 (some (.cells 3 [D.int (-1)]))).set 138 none := ⟨_, rfl⟩
    have hHf : H.Fr := by
      rw [hH]
      repeat' first | exact Heap.Fr.empty | apply Heap.Fr.bump | apply Heap.Fr.set
      all_goals first | omega | (simp <;> omega)
    have hHn : H.next = 189 := by rw [hH]; simp
    have hH1 : H.get 1 = some (.cells 87 [intsD M, mosD l]) := by rw [hH]; simp
    have hyz : List.replicate M.length (D.int 0) = yCs M.length z0 := by
      unfold yCs
      symm
      refine List.eq_replicate_iff.2 ⟨by simp, fun b hb => ?_⟩
      obtain ⟨i, _, rfl⟩ := List.mem_map.1 hb
      rfl
    have hH74 : H.get 74 = some (.cells 3 (yCs M.length z0)) := by rw [hH, ← hyz]; simp
    obtain ⟨b, h', e1, g1, b1, f1, b0, u1, u2⟩ := rep_sh (-1) hn (by omega) hHf (f := m) (by omega)
    have c82 := call_sh (pg := pg) s82 e1
    rw [hHn] at b0 u1 u2
    have hg1 : h'.get 1 = some (.cells 87 [intsD M, mosD l]) := by unfold Heap.get at hH1 ⊢; rw [u2 1 (by omega)]; exact hH1
    have hg74 : h'.get 74 = some (.cells 3 (yCs M.length z0)) := by unfold Heap.get at hH74 ⊢; rw [u2 74 (by omega)]; exact hH74
    simp only [intsD, mosD] at hH hg1 hH1
    simp [k81, Env.v_ini, grD, intsD, mosD, D.cells, D.one, hroom, hz, hz1, chunk, ← hH, hH1, c82, hg1, ev_loop]
    refine Res.endsEx (lp_rule 802 (RgO M l 1 74 b M.length) _ (rg_rounds M l 1 74 b M.length (by omega) (by omega) (by omega) hn hl hin) M.length m _ (by omega) ⟨_, _, 0, -1, List.replicate M.length (-1), fun _ => 0, rfl, by omega, ⟨by simp, by simp, by simp, by simp⟩, by simp, by simp, rfl, by simp, ?_, ?_, by rw [pOf_none]; exact Ring.start (mvs l), fun e => absurd rfl e⟩) ?_
    · intro v; simp [its, z0]
    · refine ⟨by simp [hg1, intsD, mosD], by simp [hg74, its], ⟨by simp, by simp [g1]⟩, by simp <;> omega, by simp <;> omega, by simp <;> omega, ?_⟩
      repeat' first | exact f1 | apply Heap.Fr.bump | apply Heap.Fr.set
    · rintro x s ⟨rfl, x, h, late, y, bl, rfl, ⟨v1, v2, v4, v19⟩, v3, hlate, ⟨hg, hy, ⟨hbl, hb⟩, gn, yn, bn, hfr'⟩, hlv⟩
      refine ⟨.ret (.tup [intsD bl, D.int late]), ?_, bl, late, rfl, hlate, fun e => ⟨hbl, by obtain ⟨v, L, a1, a2, a3, a4⟩ := hlv e; exact ⟨v, L, y, a1, a2, a3, a4⟩⟩⟩
      have htk : List.take M.length (bl.map D.int) = bl.map D.int := List.take_of_length_le (by simp; omega)
      have hch : chunk 1 M.length (bl.map D.int) = bl.map D.int := chunk_one _ _ (by simp [hbl])
      simp [v2, v3, hb, hbl, intsD, htk, hch]
end Go.Proofs.YtfemldhlanoakaaGreatDoor
