/- The law: At and Without of both sides answer the same. -/
import Derived.Test.YtlfknfknlcgfcaaGreatDoorZo
import Derived.Test.YtlfknfknlcgfcaaGreatDoorZh
import Derived.Test.YtlfknfknlcgfcaaGreatDoorYin
namespace Go.Proofs.YtlfknfknlcgfcaaGreatDoor
open Go Go.Em
set_option maxRecDepth 100000
theorem atF_two (w : Wld) (cs : List Int) : ∃ l e, atF w cs = [clsD l, D.int e] ∧ l.length ≤ 400 := by
  unfold atF
  split
  · exact ⟨[], _, rfl, by simp⟩
  · rename_i h0
    have h0 : chkW w = 0 := by simpa using h0
    split
    · rename_i hc
      refine ⟨_, _, rfl, ?_⟩
      have hC := chs_of h0 hc
      have := up_le w cs cs.length
      rw [up_all (Nat.le_refl _)] at this
      exact Nat.le_trans this hC.c4
    · exact ⟨[], _, rfl, by simp⟩
theorem atId_sl (z : Bool) (l : List D) : atId (.sl z l) = none := rfl
set_option maxHeartbeats 8000000 in
theorem at_law (w : Wld) (cs bl : List Int) (M : Nat) (hw : WB w M) (hr : WR w) (hs : WS (outW w bl) 20000000000000) (hM : M ≤ 20000000000000) (hb : bl.length ≤ 20000000000000) {n : Nat} (hn : 100000000000000 ≤ n) : pureCall (rc pg n) 3 [wD w, intsD cs, intsD bl] = some (.ret (D.bool true)) := by
  obtain ⟨m, rfl, e⟩ := body (pg := pg) (f := 3) (args := [wD w, intsD cs, intsD bl]) (show 0 < n by omega) rfl rfl
  rw [e]
  have hcan2 : D.canonL [wD w, intsD cs] = true := by simp [w_canon, intsD, ints_canonL]
  have hcan3 : D.canonL [wD w, intsD bl] = true := by simp [w_canon, intsD, ints_canonL]
  have r15 := fun h => call_of (h := h) (pg := pg) (f := 15) rfl hcan2 (@at_run w cs M hw m (by omega))
  have r16 := fun h => call_of (h := h) (pg := pg) (f := 16) rfl hcan2 (@rat_run w cs M hw m (by omega))
  obtain ⟨l, er, ha, hl⟩ := atF_two w cs
  rw [ha] at r15 r16
  have r17 := @same_run l (by omega) m (by omega)
  have r19 := @wo_run w bl hr hb m (by omega)
  have r20 := @rwo_run w bl hr hb m (by omega)
  obtain ⟨w', hw'⟩ : ∃ w', w' = outW w bl := ⟨_, rfl⟩
  rw [← hw'] at r19 r20 hs
  have r18 := @sameW_run w' 20000000000000 hs m (by omega)
  have hcan4 : D.canonL [wD w', wD w'] = true := by simp [w_canon]
  have hcan5 : D.canonL [clsD l, clsD l] = true := by simp [cls_canon1]
  have s17 : pg.sh 17 = false := rfl
  have s18 : pg.sh 18 = false := rfl
  have s19 : pg.sh 19 = false := rfl
  have s20 : pg.sh 20 = false := rfl
  have s21 : pg.sh 21 = false := rfl
  have r21 : pureA (rc pg m) 21 [] [] = some (.ret (D.bool true)) := by
    have h0 := sane_call (n := m) (by omega) Heap.empty
    simp only [call, show pg.sh 21 = false from rfl, each_nil, Bool.false_eq_true, if_false, Option.map_eq_some_iff] at h0
    obtain ⟨o, ho, he⟩ := h0
    rw [ho, (Prod.mk.inj he).1]
  obtain ⟨W', hW'⟩ : ∃ W', W' = wD w' := ⟨_, rfl⟩
  rw [← hW'] at r18 r19 r20 hcan4
  simp only [wD, clsD, qsD, intsD] at r15 r16 r17 r19 r20 hcan3 hcan5
  simp [k3, Env.v_ini, wD, clsD, qsD, intsD, D.cells, D.one, r15, r16, dcore_f, atId_sl, s17, s18, s19, s20, s21, hcan3, hcan4, hcan5, r17, r18, r19, r20, r21]
end Go.Proofs.YtlfknfknlcgfcaaGreatDoor
/- The law, for worlds, choices and sources that memory can hold. -/
namespace Go.Proofs.YtlfknfknlcgfcaaGreatDoor
open Go Go.Em
set_option maxRecDepth 100000
theorem reach_is : reachBytes ≤ 140737488355328 := by unfold reachBytes; decide
theorem at_all (w : Wld) (cs bl : List Int) (h : WOk w) (hb : bl.length * 8 ≤ reachBytes) {n : Nat} (hn : 100000000000000 ≤ n) : pureCall (rc pg n) 3 [wD w, intsD cs, intsD bl] = some (.ret (.val (.bool true))) := by
  have r := reach_is
  have h1 := h.cl
  have h2 := h.qs
  have hch : ∀ q ∈ w.qs, q.ch.length * 24 ≤ 140737488355328 ∧ ∀ l ∈ q.ch, l.length * 40 ≤ 140737488355328 := fun q hq => by
    have h3 := (h.ch q hq).1
    exact ⟨by omega, fun l hl => by have := (h.ch q hq).2 l hl; omega⟩
  have hch2 : ∀ q ∈ w.qs, q.ch.length ≤ 10000000000000 ∧ ∀ l ∈ q.ch, l.length ≤ 10000000000000 := fun q hq => by
    have h3 := (hch q hq).1
    exact ⟨by omega, fun l hl => by have := (hch q hq).2 l hl; omega⟩
  have hcl := outF_le w.cl bl
  have hql := outQ_le w.qs bl
  exact at_law w cs bl 10000000000000 ⟨by omega, fun q hq l hl => (hch2 q hq).2 l hl, by decide⟩ ⟨by omega, by omega, hch⟩
    ⟨by show (outF w.cl bl).length ≤ _; omega, by show (outQ w.qs bl).length ≤ _; omega, fun q hq => by
      obtain ⟨a, b⟩ := hch2 q (List.mem_filter.1 hq).1
      exact ⟨by omega, fun l hl => by have := b l hl; omega⟩, by decide⟩ (by decide) (by omega) hn
end Go.Proofs.YtlfknfknlcgfcaaGreatDoor
