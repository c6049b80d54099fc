/- A world as an argument: whatever claims, questions and choices of claims. -/
import Derived.Test.YtmncdmpeeibgmaaGreatDoorIn
import Derived.Test.YtmncdmpeeibgmaaGreatDoorY1
import Derived.Test.YtmncdmpeeibgmaaGreatDoorEmFlat
import Derived.Test.YtmncdmpeeibgmaaGreatDoorYc
import Derived.Test.YtmncdmpeeibgmaaGreatDoorSane
import Derived.Test.YtmncdmpeeibgmaaGreatDoorKp1
namespace Go.Proofs.YtmncdmpeeibgmaaGreatDoor
open Go Go.Em Go.RowKit Go.ChangeShapes Go.ChangeAt Go.WideShapes Go.Joins Go.Deep
set_option maxRecDepth 100000
theorem size22 : Tryz.prog.cellsOf 22 = 1 := by kernel_rfl
theorem size23 : Tryz.prog.cellsOf 23 = 1 := by kernel_rfl
theorem size25 : Tryz.prog.cellsOf 25 = 2 := by kernel_rfl
theorem size26 : Tryz.prog.cellsOf 26 = 1 := by kernel_rfl
theorem size28 : Tryz.prog.cellsOf 28 = 2 := by kernel_rfl
theorem bytes22 : Tryz.prog.bytesOf 22 = 24 := by kernel_rfl
theorem bytes28 : Tryz.prog.bytesOf 28 = 32 := by kernel_rfl
structure WOk (w : Wld) : Prop where
  cl : w.cl.length * 40 ≤ reachBytes
  qs : w.qs.length * 32 ≤ reachBytes
  ch : ∀ q ∈ w.qs, q.ch.length * 24 ≤ reachBytes ∧ ∀ l ∈ q.ch, l.length * 40 ≤ reachBytes
section
variable {H : Type} {enc : TypeId × Value → H} {W : World} {base : Nat} {r : Reach} {b0 : Nat} {spare : Nat → Bool} {held : Bool} {v : Value} {d : DataW H} {p : List MemPlace}
theorem agg_of_struct {P : Program} {w : World} {t : TypeId} {fs : Array Field} {v : Value} (ht : P.underlying t = some (.struct fs)) (hv : Value.okWide P w r b0 t v) : ∃ cs, v = .agg cs := by
  simp only [Value.okWide, ht] at hv
  obtain ⟨cs, h, _⟩ := hv
  exact ⟨cs, h⟩
theorem reads_i : Reads enc Tryz.prog W base spare held 3 (fun n : Int => [D.int n]) (fun _ => True) :=
  (reads_int Tryz.underlying3).map id (fun _ => rfl) (fun _ _ => trivial)
theorem reads_claim : Reads enc Tryz.prog W base spare held 45 clC (fun _ => True) := by
  have := reads_struct (enc := enc) (w := W) (base := base) (spare := spare) (held := held) Tryz.underlying45 (by
    rw [size45]
    exact freads_cons (o := 0) reads_i rfl size3 (freads_cons (o := 1) reads_i rfl size3 (freads_cons (o := 2) reads_i rfl size3 (freads_cons (o := 3) reads_i rfl size3 (freads_cons (o := 4) reads_i rfl size3 freads_nil)))))
  exact this.map (fun x => (⟨x.1, x.2.1, x.2.2.1, x.2.2.2.1, x.2.2.2.2.1⟩ : Clm)) (fun _ => rfl) (fun _ _ => trivial)
theorem reads_cls : Reads enc Tryz.prog W base spare held 22 (fun l : List Clm => [clsD l]) (fun l => l.length * 40 ≤ reachBytes) :=
  (reads_aggs Tryz.underlying22 size45 (by omega) (fun _ => rfl) (fun _ => rfl) reads_claim).map id (fun _ => rfl) (fun a h => by have := h.1; rw [bytes27] at this; exact this)
theorem reads_ch : Reads enc Tryz.prog W base spare held 26 (fun l : List (List Clm) => [chD l]) (fun l => l.length * 24 ≤ reachBytes ∧ ∀ c ∈ l, c.length * 40 ≤ reachBytes) :=
  (reads_slice (fun l : List Clm => clsD l) Tryz.underlying26 size22 (by omega) (fun _ => rfl) (fun _ => rfl) (fun _ => rfl) reads_cls).map id (fun _ => rfl) (fun a h => ⟨by have := h.1; rw [bytes22] at this; exact this, h.2⟩)
theorem reads_q : Reads enc Tryz.prog W base spare held 28 qC (fun q => q.ch.length * 24 ≤ reachBytes ∧ ∀ l ∈ q.ch, l.length * 40 ≤ reachBytes) := by
  have := reads_struct (enc := enc) (w := W) (base := base) (spare := spare) (held := held) Tryz.underlying28 (by
    rw [size28]
    exact freads_cons (o := 0) reads_i rfl size3 (freads_cons (o := 1) reads_ch rfl size26 freads_nil))
  exact this.map (fun x => (⟨x.1, x.2.1⟩ : Qst)) (fun _ => rfl) (fun _ h => h.2.1)
theorem reads_qs : Reads enc Tryz.prog W base spare held 23 (fun l : List Qst => [qsD l]) (fun l => l.length * 32 ≤ reachBytes ∧ ∀ q ∈ l, q.ch.length * 24 ≤ reachBytes ∧ ∀ c ∈ q.ch, c.length * 40 ≤ reachBytes) :=
  (reads_aggs Tryz.underlying23 size28 (by omega) (fun _ => rfl) (fun _ => rfl) reads_q).map id (fun _ => rfl) (fun a h => ⟨by have := h.1; rw [bytes28] at this; exact this, h.2⟩)
theorem world_in (hv : Value.okWide Tryz.prog W r b0 25 v) (h : DataW.Trod enc Tryz.prog W base spare held 25 v d p) : ∃ w : Wld, ((d.weights Tryz.prog 25).all (· ≤ reachBytes) = true → WOk w) ∧ Den (ctxOf W) v (wD w) := by
  obtain ⟨cs, rfl⟩ := agg_of_struct Tryz.underlying25 hv
  have := reads_struct (enc := enc) (w := W) (base := base) (spare := spare) (held := held) Tryz.underlying25 (by
    rw [size25]
    exact freads_cons (o := 0) reads_cls rfl size22 (freads_cons (o := 1) reads_qs rfl size23 freads_nil))
  obtain ⟨a, ha, hw⟩ := this.agg h
  exact ⟨⟨a.1, a.2.1⟩, fun hz => ⟨(hw hz).1, (hw hz).2.1.1, (hw hz).2.1.2⟩, ha⟩
end
end Go.Proofs.YtmncdmpeeibgmaaGreatDoor
/- The law: CheckQuestion, Check and Sources agree with the document's own, for all worlds. -/
namespace Go.Proofs.YtmncdmpeeibgmaaGreatDoor
open Go Go.Em
set_option maxRecDepth 100000
def YfI (w : Wld) (k : Nat) (s : St) : Prop := ∃ (x : Env 33) (h : Heap) (kb i : Nat), s = ⟨x.l, h, []⟩ ∧ i + k = w.qs.length ∧ x.v 1 = .ptr kb 0 ∧ h.get kb = some (.cells 25 [clsD w.cl, qsD w.qs]) ∧ kb < h.next ∧ x.v 6 = qsD w.qs ∧ x.v 7 = D.int w.qs.length ∧ x.v 8 = D.int i ∧ h.Fr
set_option maxHeartbeats 4000000 in
theorem yf_round (w : Wld) (M : Nat) (hw : WB w M) (hl : w.qs.length ≤ 1000000000000000) : ∀ n, M + 110 ≤ n → ∀ k s, YfI w k s → Res (k3l0.ev ⟨pg, 33, none⟩ (rc pg n) s) (Rnd (YfI w) (fun x s => x = .exit 0 ∧ YfI w 0 s) k) := by
  rintro n hn k s ⟨x, h, kb, i, rfl, hik, v1, hg, hk, v22, v23, v24, hf⟩
  simp only [qsD] at v22
  by_cases hi : i < w.qs.length
  · obtain ⟨q, hl⟩ : ∃ q, w.qs[i] = q := ⟨_, rfl⟩
    have hmem : q ∈ w.qs := by rw [← hl]; exact List.getElem_mem hi
    have w1 : IntKind.i64.wrap ((i : Int) + 1) = (i : Int) + 1 := wrap_i64 (by omega) (by omega)
    have hfr : ∀ j, h.raw (h.next + j) = none := fun j => hf _ (by omega)
    have ne1 : ∀ j, (kb = h.next + j) = False := fun j => by simp; omega
    have r5 := @cq_run q M (hw.ch q hmem) (by have := hw.M; omega) n (by omega)
    have r6 := @rcq_run q M (hw.ch q hmem) (by have := hw.M; omega) n (by omega)
    have s5 : pg.sh 5 = false := rfl
    have s6 : pg.sh 6 = false := rfl
    have hcan : D.canonL [qD q] = true := by simp [q_canon]
    simp only [qD, qC, chD] at r5 r6 hcan
    simp [k3l0, v22, v23, v24, hi, hl, qD, qC, chD, D.cells, D.one, hfr, Nat.add_assoc, w1, dcore_f, s5, s6, hcan, r5, r6]
    refine ⟨k - 1, by omega, _, _, kb, i + 1, rfl, by omega, by simp [v1], by simp [ne1, hg], by simp; omega, by simp [v22, qsD], by simp [v23], by simp, ?_⟩
    repeat' first | exact hf | apply Heap.Fr.bump | apply Heap.Fr.set
    all_goals (simp <;> omega)
  · simp [k3l0, v23, v24, hi]
    exact ⟨_, _, kb, i, rfl, by omega, by simp [v1], by simp [hg], by simp; omega, by simp [v22, qsD], by simp [v23], by simp [v24], hf.bump _⟩
set_option maxHeartbeats 8000000 in
theorem checks_law (w : Wld) (M : Nat) (hw : WB w M) (hl : w.qs.length ≤ 1000000000000000) {n : Nat} (hn : M + w.qs.length + 5000000 ≤ n) : pureCall (rc pg n) 3 [wD w] = some (.ret (.val (.bool true))) := by
  obtain ⟨m, rfl, e⟩ := body (pg := pg) (f := 3) (args := [wD w]) (show 0 < n by omega) rfl rfl
  rw [e]
  have r7 := @cw_run w M hw m (by omega)
  have r8 := @rcw_run w M hw m (by omega)
  have r10 := @cs_run w M hw m (by omega)
  have r11 := @rcs_run w M hw m (by omega)
  obtain ⟨S, hS⟩ : ∃ S, S = if chkW w = 0 then wsF w else [] := ⟨_, rfl⟩
  rw [← hS] at r10 r11
  have hSl : S.length ≤ 4000 := by
    rw [hS]
    split
    · rename_i hz
      obtain ⟨hz0, h6, _⟩ := chkw_ok hz
      have hc4 : w.cl.length ≤ 400 := (chk_ok hz0).1
      obtain ⟨_, _, h3⟩ := wsg_ok w.qs (srcF w.cl) (src_rise w.cl)
      have := src_len w.cl
      rw [ws_same]; unfold wsG; omega
    · simp
  have r9 := @sameI_run S S hSl m (by omega)
  have e9 : sameF S S = true := by simp [sameF]
  rw [e9] at r9
  have s7 : pg.sh 7 = false := rfl
  have s8 : pg.sh 8 = false := rfl
  have s10 : pg.sh 10 = false := rfl
  have s11 : pg.sh 11 = false := rfl
  have s9 : pg.sh 9 = false := rfl
  have s12 : pg.sh 12 = false := rfl
  have hcan : D.canonL [wD w] = true := by simp [w_canon]
  have hcan2 : D.canonL [intsD S, intsD S] = true := by simp [intsD, ints_canonL]
  have r12 : pureA (rc pg m) 12 [] [] = some (.ret (D.bool true)) := by
    have h0 := sane_call (n := m) (by omega) Heap.empty
    simp only [call, show pg.sh 12 = false from rfl, each_nil, Bool.false_eq_true, if_false, Option.map_eq_some_iff] at h0
    obtain ⟨o, ho, he⟩ := h0
    rw [ho, (Prod.mk.inj he).1]
  simp only [wD, clsD, qsD] at r7 r8 r10 r11 hcan
  simp only [intsD] at r9 r10 r11 hcan2
  simp [k3, Env.v_ini, wD, clsD, qsD, D.cells, D.one, ev_loop]
  refine Res.endsAfter (lp_rule (M + 110) (YfI w) _ (yf_round w M hw hl) w.qs.length m _ (by omega) ⟨_, _, 1, 0, rfl, by omega, by simp, by simp [clsD, qsD], by simp, by simp [qsD], by simp, by simp, ?_⟩) ?_
  · repeat' first | exact Heap.Fr.empty | apply Heap.Fr.bump | apply Heap.Fr.set
    all_goals simp
  · rintro y s ⟨rfl, x, h, kb, i, rfl, hi, v1, hg, hk, _, _, _, hf⟩
    simp only [clsD, qsD] at hg
    simp [v1, hg, dcore_f, s7, s8, s9, s10, s11, s12, hcan, hcan2, r7, r8, r9, r10, r11, r12]
end Go.Proofs.YtmncdmpeeibgmaaGreatDoor
/- The law, for worlds whose lists memory can hold. -/
namespace Go.Proofs.YtmncdmpeeibgmaaGreatDoor
open Go Go.Em
set_option maxRecDepth 100000
theorem wok_b {w : Wld} (h : WOk w) : WB w 10000000000000 ∧ w.qs.length ≤ 10000000000000 := by
  have r : reachBytes ≤ 200000000000000 := by unfold reachBytes; decide
  refine ⟨⟨?_, fun q hq l hl => ?_, by decide⟩, ?_⟩
  · have := h.cl; omega
  · have := (h.ch q hq).2 l hl; omega
  · have := h.qs; omega
theorem checks_all (w : Wld) (h : WOk w) {n : Nat} (hn : 100000000000000 ≤ n) : pureCall (rc pg n) 3 [wD w] = some (.ret (.val (.bool true))) := by
  obtain ⟨h1, h2⟩ := wok_b h
  exact checks_law w _ h1 (by omega) (by omega)
end Go.Proofs.YtmncdmpeeibgmaaGreatDoor
