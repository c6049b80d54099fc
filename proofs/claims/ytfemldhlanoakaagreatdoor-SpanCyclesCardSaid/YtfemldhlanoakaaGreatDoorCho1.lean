/- The document's chronology: the years that are left to one mark. -/
import Derived.Test.YtfemldhlanoakaaGreatDoorSh1
import Derived.Test.YtfemldhlanoakaaGreatDoorRoom
import Derived.Test.YtfemldhlanoakaaGreatDoorKp1
namespace Go.Proofs.YtfemldhlanoakaaGreatDoor
open Go Go.Em Go.Em.Net
set_option maxRecDepth 100000
def GZ (ty sz len : Nat) (cs : List D) (h : Heap) (d : D) : Prop := (len = 0 ∧ d = .val (.slice none 0 0)) ∨ 0 < len ∧ ∃ k, d = .slr k 0 len sz none ∧ h.get k = some (.cells ty cs) ∧ k < h.next
theorem GZ.keep {ty sz len : Nat} {cs : List D} {h h' : Heap} {d : D} (g : GZ ty sz len cs h d) (hn : h.next ≤ h'.next) (hk : ∀ q, q < h.next → h'.get q = h.get q) : GZ ty sz len cs h' d := by
  rcases g with g | ⟨g0, k, g1, g2, g3⟩
  · exact .inl g
  · exact .inr ⟨g0, k, g1, by rw [hk _ g3]; exact g2, by omega⟩
end Go.Proofs.YtfemldhlanoakaaGreatDoor
/- The document's chronology: all marks in turn. -/
namespace Go.Proofs.YtfemldhlanoakaaGreatDoor
open Go Go.Em Go.Em.Net
set_option maxRecDepth 100000
end Go.Proofs.YtfemldhlanoakaaGreatDoor
/- The program's chronology is the document's: the law, by the evaluator. -/
namespace Go.Proofs.YtfemldhlanoakaaGreatDoor
open Go Go.Em Go.Em.Net
set_option maxRecDepth 100000
set_option maxHeartbeats 8000000 in
theorem poss_run (l : List Clm) (h0 : chkF l = 0) {f : Nat} (hf : 4000 ≤ f) : pureCall (rc pg f) 15 [clsD l] = some (.ret (D.bool (!badF l))) := by
  obtain ⟨m, rfl, e⟩ := body (pg := pg) (f := 15) (args := [clsD l]) (show 0 < f by omega) rfl rfl
  rw [e]
  by_cases hl0 : l = []
  · subst hl0
    have c67 := fun h => call_of (h := h) (pg := pg) (f := 50) rfl (cls_canon []) (rclo_nil (f := m) (by omega))
    have hb : badF [] = false := rfl
    rw [hb]
    simp only [clsD, List.map_nil] at c67
    simp [k15, Env.v_ini, clsD, c67, D.cells, D.one]
  · obtain ⟨B, e67, _⟩ := rclo_run l h0 hl0 (f := m) (by omega)
    have c67 := fun h => call_of (h := h) (pg := pg) (f := 50) rfl (cls_canon l) e67
    simp only [clsD, nD, intsD, rowsD] at c67
    simp [k15, Env.v_ini, clsD, c67, D.cells, D.one]
end Go.Proofs.YtfemldhlanoakaaGreatDoor
