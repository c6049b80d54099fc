/- Bounds, by the document. -/
import Derived.Test.YtfemldhlanoakaaGreatDoorPl
import Derived.Test.YtfemldhlanoakaaGreatDoorWo1
import Derived.Test.YtfemldhlanoakaaGreatDoorSh1
import Derived.Test.YtfemldhlanoakaaGreatDoorPl
namespace Go.Proofs.YtfemldhlanoakaaGreatDoor
open Go Go.Em Go.Em.Net
set_option maxRecDepth 100000
theorem has_iff (l : List Int) (v : Int) : hasI l v = decide (v ∈ l) := by
  rw [Bool.eq_iff_iff, hasI_mem, decide_eq_true_iff]
theorem pos_iff (M : List Int) (v : Int) : posF M v = -1 ↔ v ∉ M := by
  unfold posF
  by_cases h : v ∈ M
  · rw [if_pos h]; simp [h]
  · rw [if_neg h]; simp [h]
def nilW : D := .agg [.sl false [], .sl false []]
def askF (l : List Clm) (a b : Int) : D := .tup [if errF l a b = 0 then nD (marksF l) (encM (cloF l)) else nilW, D.int (errF l a b)]
set_option maxHeartbeats 8000000 in
theorem asked_run (l : List Clm) (a b : Int) {f : Nat} (hf : 4000 ≤ f) : pureCall (rc pg f) 70 [clsD l, D.int a, D.int b] = some (.ret (askF l a b)) := by
  obtain ⟨m, rfl, e⟩ := body (pg := pg) (f := 70) (args := [clsD l, D.int a, D.int b]) (show 0 < f by omega) rfl rfl
  rw [e]
  have cC := fun h => call_of (h := h) (pg := pg) (f := 12) rfl (cls_canon l) (@rchk_run l m (by omega))
  simp only [clsD] at cC
  by_cases h0 : chkF l = 0
  · rw [h0] at cC
    obtain ⟨hl1, hok, hl3⟩ := chk_ok h0
    have cM := fun h => call_of (h := h) (pg := pg) (f := 40) rfl (cls_canon l) (rmarks_run l (by omega) (n := m) (by omega))
    have hc1 := ints_canonL (marksF l)
    have cA := fun h => call_of (h := h) (pg := pg) (f := 19) (args := [intsD (marksF l), D.int a]) rfl (by simp [intsD, hc1]) (has_run (marksF l) (by omega) a (n := m) (by omega))
    have cB := fun h => call_of (h := h) (pg := pg) (f := 19) (args := [intsD (marksF l), D.int b]) rfl (by simp [intsD, hc1]) (has_run (marksF l) (by omega) b (n := m) (by omega))
    rw [has_iff] at cA cB
    simp only [clsD, intsD] at cM cA cB
    by_cases ha : a ∈ marksF l
    · by_cases hb' : b ∈ marksF l
      · have hl0 : l ≠ [] := fun e => by subst e; cases ha
        obtain ⟨B, eC, hB⟩ := rclo_run l (okw h0) hl0 (f := m) (by omega)
        have cL := fun h => call_of (h := h) (pg := pg) (f := 50) rfl (cls_canon l) eC
        simp only [clsD, nD, intsD, rowsD] at cL
        have np : ¬ (posF (marksF l) a = -1 ∨ posF (marksF l) b = -1) := by rw [pos_iff, pos_iff]; simp [ha, hb']
        cases hb : badF l with
        | true =>
          have e0 : askF l a b = .tup [nilW, D.int 25] := by rw [show askF l a b = .tup [if errF l a b = 0 then nD (marksF l) (encM (cloF l)) else nilW, D.int (errF l a b)] from rfl, show errF l a b = 25 from (by unfold errF; rw [if_neg (by omega), if_neg np, if_pos hb])]; rfl
          rw [hb] at cL
          simp [-beq_iff_eq, k70, Env.v_ini, clsD, D.cells, D.one, cC, cM, cA, cB, ha, hb', cL, e0, nilW]
        | false =>
          have hE : errF l a b = 0 := by unfold errF; rw [if_neg (by omega), if_neg np, if_neg (by rw [hb]; simp)]
          have e0 : askF l a b = .tup [nD (marksF l) (encM (cloF l)), D.int 0] := by unfold askF; rw [hE]; rfl
          have hd := hB hb
          subst hd
          rw [hb] at cL
          have hcX := rows_canonL (marksF l).length (encM (cloF l))
          have hx := fun H n => each_canon H n _ hcX
          simp [-beq_iff_eq, k70, Env.v_ini, clsD, D.cells, D.one, cC, cM, cA, cB, ha, hb', cL, e0, nD, intsD, rowsD, hx]
      · have np : posF (marksF l) a = -1 ∨ posF (marksF l) b = -1 := .inr ((pos_iff _ _).2 hb')
        have e0 : askF l a b = .tup [nilW, D.int 3] := by rw [show askF l a b = .tup [if errF l a b = 0 then nD (marksF l) (encM (cloF l)) else nilW, D.int (errF l a b)] from rfl, show errF l a b = 3 from (by unfold errF; rw [if_neg (by omega), if_pos np])]; rfl
        simp [-beq_iff_eq, k70, Env.v_ini, clsD, D.cells, D.one, cC, cM, cA, cB, ha, hb', e0, nilW]
    · have np : posF (marksF l) a = -1 ∨ posF (marksF l) b = -1 := .inl ((pos_iff _ _).2 ha)
      have e0 : askF l a b = .tup [nilW, D.int 3] := by rw [show askF l a b = .tup [if errF l a b = 0 then nD (marksF l) (encM (cloF l)) else nilW, D.int (errF l a b)] from rfl, show errF l a b = 3 from (by unfold errF; rw [if_neg (by omega), if_pos np])]; rfl
      simp [-beq_iff_eq, k70, Env.v_ini, clsD, D.cells, D.one, cC, cM, cA, ha, e0, nilW]
  · have h0' : (chkF l != 0) = true := by simpa using h0
    have e0 : askF l a b = .tup [nilW, D.int (chkF l)] := by rw [show askF l a b = .tup [if errF l a b = 0 then nD (marksF l) (encM (cloF l)) else nilW, D.int (errF l a b)] from rfl, show errF l a b = chkF l from (by unfold errF; rw [if_pos h0])]; rw [if_neg h0]
    simp [-bne_iff_ne, k70, Env.v_ini, clsD, D.cells, D.one, cC, h0', e0, nilW]
theorem index_pl {l : List Clm} (h0 : chkF l = 0) {v : Int} (hv : v ∈ marksF l) {n : Nat} (hn : 100 ≤ n) : pureCall (rc pg n) 61 [intsD (marksF l), D.int v] = some (.ret (D.int (placeF (marksF l) v))) := by
  have hl3 := (chk_ok h0).2.2
  have := index_run (marksF l) (by omega) v (n := n) (by omega)
  rw [ix_place hv, Nat.zero_add] at this
  exact this
theorem err_marks {l : List Clm} {a b : Int} (h : errF l a b = 0) : a ∈ marksF l ∧ b ∈ marksF l := by
  unfold errF at h
  split at h
  · rename_i h1; exact absurd h h1
  · split at h
    · cases h
    · rename_i h2
      rw [pos_iff, pos_iff] at h2
      exact ⟨Decidable.byContradiction fun e => h2 (.inl e), Decidable.byContradiction fun e => h2 (.inr e)⟩
set_option maxHeartbeats 8000000 in
theorem rbds_run (l : List Clm) (a b : Int) {f : Nat} (hf : 4001 ≤ f) : pureCall (rc pg f) 29 [clsD l, D.int a, D.int b] = some (.ret (bdsF l a b)) := by
  obtain ⟨m, rfl, e⟩ := body (pg := pg) (f := 29) (args := [clsD l, D.int a, D.int b]) (show 0 < f by omega) rfl rfl
  rw [e]
  have cA := fun h => call_of (h := h) (pg := pg) (f := 70) (args := [clsD l, D.int a, D.int b]) rfl (by simp [clsD, canonL_map clD cl_canon l]) (asked_run l a b (f := m) (by omega))
  simp only [clsD, askF] at cA
  by_cases hE : errF l a b = 0
  · obtain ⟨h0, hb, pa, pb, h1, h2, h3, h4, _⟩ := bet_ok hE
    obtain ⟨ma, mb⟩ := err_marks hE
    rw [hE] at cA
    have ed : bdsF l a b = .tup [D.int (-(encM (cloF l) pb pa)), D.int (encM (cloF l) pa pb), D.int 0] := by unfold bdsF; rw [if_pos hE, h3, h4]
    have hc1 := ints_canonL (marksF l)
    have ia := index_pl h0 ma (n := m) (by omega)
    have ib := index_pl h0 mb (n := m) (by omega)
    rw [← h3] at ia
    rw [← h4] at ib
    have cI := fun h => call_of (h := h) (pg := pg) (f := 61) rfl (by simp [intsD, hc1]) ia
    have cJ := fun h => call_of (h := h) (pg := pg) (f := 61) rfl (by simp [intsD, hc1]) ib
    have hbd := enc_bd (clo_bt h0 hb)
    have w1 : IntKind.i64.wrap (-(encM (cloF l) pb pa)) = -(encM (cloF l) pb pa) := by have := hbd pb pa; exact wrap_i64 (by omega) (by omega)
    have yl := fun i => yCs_len (marksF l).length (encM (cloF l) i)
    have g1 : ∀ i, ∀ h' : pa < (yCs (marksF l).length (encM (cloF l) i)).length, (yCs (marksF l).length (encM (cloF l) i))[pa]'h' = D.int (encM (cloF l) i pa) := fun i h' => yCs_at h1 h'
    have g2 : ∀ i, ∀ h' : pb < (yCs (marksF l).length (encM (cloF l) i)).length, (yCs (marksF l).length (encM (cloF l) i))[pb]'h' = D.int (encM (cloF l) i pb) := fun i h' => yCs_at h2 h'
    simp only [if_true, nD, intsD, rowsD] at cA cI cJ
    simp [k29, Env.v_ini, clsD, D.cells, D.one, cA, cI, cJ, ed, h1, h2, yl, g1, g2, w1]
  · have ed : bdsF l a b = .tup [D.int 0, D.int 0, D.int (errF l a b)] := by unfold bdsF; rw [if_neg hE]
    have q : (errF l a b != 0) = true := by simpa using hE
    simp only [if_neg hE, nilW] at cA
    simp [-bne_iff_ne, k29, Env.v_ini, clsD, D.cells, D.one, cA, ed, q]
end Go.Proofs.YtfemldhlanoakaaGreatDoor
