/- Needless, by the program: one round. -/
import Derived.Test.YtlkpikdfbodhoaaDoorNe1
import Derived.Test.YtlkpikdfbodhoaaDoorNe1
import Derived.Test.YtlkpikdfbodhoaaDoorCho1
import Derived.Test.YtlkpikdfbodhoaaDoorPl
namespace Go.Proofs.YtlkpikdfbodhoaaDoor
open Go Go.Em Go.Em.Net
set_option maxRecDepth 100000
def ndU (i : Nat) : Nat → Bool := fun k => k != i
def ndV (l : List Clm) (i : Nat) : List Clm := uF (ndU i) 0 l
def ndT (l : List Clm) (i : Nat) : Bool := sN (marksF (ndV l i)) (encM (cloF (ndV l i))) (marksF l) (encM (cloF l))
def ndL (l : List Clm) (i : Nat) : List Nat := (List.range i).filter (ndT l)
theorem ndL_succ (l : List Clm) (i : Nat) : ndL l (i + 1) = ndL l i ++ if ndT l i = true then [i] else [] := by
  unfold ndL
  rw [List.range_succ, List.filter_append]
  congr 1
  cases h : ndT l i <;> simp [h]
theorem ndL_len (l : List Clm) (i : Nat) : (ndL l i).length ≤ i := by
  unfold ndL
  exact Nat.le_trans (List.length_filter_le _ _) (by simp)
def ndD (l : List Nat) : List D := l.map fun q => D.int (q : Nat)
theorem cool1 {h : Heap} {k : Nat} {ty : TypeId} {cs : List D} (hg : h.get k = some (.cells ty cs)) (hc : cs.map (coolD h [k]) = cs) :
    (h.cool [k]).next = h.next ∧ (∀ j, j ≠ k → (h.cool [k]).raw j = h.raw j) ∧ (h.cool [k]).raw k = some none ∧ (h.cool [k]).fzd k = some cs := by
  refine ⟨rfl, fun j hj => Heap.raw_set_ne h none hj, Heap.raw_set_same h k none, ?_⟩
  show (coolL h [k] [k] ++ (h.kill [k]).z).lookup k = some cs
  simp [coolL, hg, hc]
theorem coolD_int (h : Heap) (ks : List Nat) (k : IntKind) (i : Int) : coolD h ks (.val (.int k i)) = .val (.int k i) := by
  unfold coolD
  rw [frz_canon (show D.canon (.val (.int k i)) = true from rfl)]
  rfl
theorem call_cell {R : Rc} {f : FuncId} {a : D} {args bs : List D} {h : Heap} {k : Nat} {i : Int} {d : D} (hf : h.Fr) (hs : pg.sh f = false) (hg : h.get k = some (.cells 3 [D.int i])) (hk : k < h.next) (ha : each (Go.Em.frz h depth) (a :: args) = some (bs, [k])) (x : pureCall R f bs = some (.ret d)) :
    ∃ H, call pg R f (a :: args) h = some (.ret d, H) ∧ H.Fr ∧ H.next = h.next ∧ (∀ j, j ≠ k → H.raw j = h.raw j) ∧ H.rdc k = some [D.int i] ∧ ∃ b, H.raw k = some b := by
  have e : call pg R f (a :: args) h = some (.ret d, if (([k] : List Nat).isEmpty || (Out.ret d).d.flat) = true then h else h.cool [k]) := by
    simp only [call, hs, ha, pureA, pureS, x, orS, Option.map_some, Bool.false_eq_true, if_false]
  by_cases hd : d.flat = true
  · refine ⟨h, by rw [e]; simp [Out.d, hd], hf, rfl, fun _ _ => rfl, Heap.rdc_cells hg, _, Heap.raw_of_get hg⟩
  · obtain ⟨c1, c2, c3, c4⟩ := cool1 hg (by simp [coolD_int])
    refine ⟨h.cool [k], by rw [e]; simp [Out.d, hd], ?_, c1, c2, Heap.rdc_fzd (fun ty c x => by unfold Heap.get at x; rw [c3] at x; cases x) c4, _, c3⟩
    intro j hj
    rw [c1] at hj
    rw [c2 j (by omega)]; exact hf j hj
theorem c85_run (i : Nat) {n : Nat} (hn : 80 ≤ n) (k : Nat) : pureCall (rc pg n) 85 [D.int k, .eref [D.int i]] = some (.ret (D.bool (ndU i k))) := by
  obtain ⟨m, rfl, e⟩ := body (pg := pg) (f := 85) (args := [D.int k, .eref [D.int i]]) (show 0 < n by omega) rfl rfl
  rw [e]
  have : ((k : Int) != (i : Int)) = ndU i k := by
    unfold ndU
    by_cases h : k = i
    · subst h; simp only [bne_self_eq_false]
    · have h2 : ¬ (k : Int) = i := by omega
      rw [bne_iff_ne.2 h2, bne_iff_ne.2 h]
  simp [k85, Env.v_ini, this]
end Go.Proofs.YtlkpikdfbodhoaaDoor
