/- Whether two ashes may be alike, on both sides. -/
import Derived.Test.YtnfhgnbniajhoaaDoorRef
namespace Go.Proofs.YtnfhgnbniajhoaaDoor
open Go Go.Em
set_option maxRecDepth 100000
theorem call_frz {pg : Pg} {R : Rc} {f : FuncId} {args bs : List D} {ks : List Nat} {h : Heap} {o : Out} (hs : pg.sh f = false) (ha : each (frz h depth) args = some (bs, ks)) (x : pureCall R f bs = some o) (hf : (ks.isEmpty || o.d.flat) = true) : call pg R f args h = some (o, h) := by
  simp only [call, hs, ha, x, Option.map_some, Bool.false_eq_true, if_false]
  rw [if_pos hf]
def twoC (a b : As) : List D := [D.int a.id, D.int a.mark, D.int a.a.lo, D.int a.a.hi, D.int a.b.lo, D.int a.b.hi, D.int a.c.lo, D.int a.c.hi, D.int b.id, D.int b.mark, D.int b.a.lo, D.int b.a.hi, D.int b.b.lo, D.int b.b.hi, D.int b.c.lo, D.int b.c.hi]
theorem frz_two (a b : As) (h : Heap) (k : Nat) (hg : h.get k = some (.cells 31 (twoC a b))) : each (frz h depth) [D.slr k 0 2 8 (some 2)] = some ([assD [a, b]], [k]) := by
  have e : frz h depth (D.slr k 0 2 8 (some 2)) = some (assD [a, b], [k]) := by
    unfold depth
    rw [frz_slr, hg, frzS_cells]
    have hc : D.canonL (twoC a b) = true := rfl
    have ht : ((twoC a b).drop 0).take (2 * 8) = twoC a b := rfl
    rw [if_pos (by simp [twoC]), ht, each_canon h 22 _ hc]
    rfl
  simp only [each, e, List.append_nil]
theorem meets_run (a b : As) {n : Nat} (hn : 30 ≤ n) : pureCall (rc pg n) 9 [asD a, asD b] = some (.ret (D.bool (comF [a, b]).2)) := by
  obtain ⟨m, rfl, e⟩ := body (pg := pg) (f := 9) (args := [asD a, asD b]) (show 0 < n by omega) rfl rfl
  rw [e]
  have hc := fun (h : Heap) (hg : h.get 25 = some (.cells 31 (twoC a b))) => call_frz (pg := pg) (f := 7) rfl (frz_two a b h 25 hg) (@common_run [a, b] (by simp) m (by simp; omega)) rfl
  simp only [comD, g3C] at hc
  simp [k9, Env.v_ini, asD, D.cells, D.one, zerosD, chunk]
  rw [hc _ (by simp [twoC])]
  simp [D.cells, D.one]
theorem rmeets_run (a b : As) {n : Nat} (hn : 30 ≤ n) : pureCall (rc pg n) 10 [asD a, asD b] = some (.ret (D.bool (refF [a, b]).2)) := by
  obtain ⟨m, rfl, e⟩ := body (pg := pg) (f := 10) (args := [asD a, asD b]) (show 0 < n by omega) rfl rfl
  rw [e]
  have hc := fun (h : Heap) (hg : h.get 25 = some (.cells 31 (twoC a b))) => call_frz (pg := pg) (f := 8) rfl (frz_two a b h 25 hg) (@rcommon_run [a, b] (by simp) m (by simp; omega)) rfl
  simp only [comD, g3C] at hc
  simp [k10, Env.v_ini, asD, D.cells, D.one, zerosD, chunk]
  rw [hc _ (by simp [twoC])]
  simp [D.cells, D.one]
end Go.Proofs.YtnfhgnbniajhoaaDoor
