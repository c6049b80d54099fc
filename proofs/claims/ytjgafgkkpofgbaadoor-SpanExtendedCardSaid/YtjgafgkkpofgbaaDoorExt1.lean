/- Years that are handed in, by the program: that they break no bound; the marks that they date. -/
import Derived.Test.YtjgafgkkpofgbaaDoorRoom
import Derived.Test.YtjgafgkkpofgbaaDoorNar
namespace Go.Proofs.YtjgafgkkpofgbaaDoor
open Go Go.Em Go.Em.Net
set_option maxRecDepth 100000
def HdI (M : List Int) (A : Nat → Nat → Int) (y : Nat → Int) (dt : Nat → Bool) (k : Nat) (s : St) : Prop := ∃ (x : Env 39) (h : Heap) (i : Nat), s = ⟨x.l, h, []⟩ ∧ i + k = M.length ∧ x.v 1 = .ptr 1 0 ∧ x.v 11 = D.int M.length ∧ x.v 12 = D.int i ∧ 1 < h.next ∧ h.get 1 = some (.cells 102 [intsD M, rowsD M.length A, .sl false (yCs M.length y), .sl false (bCs M.length dt)])
set_option maxHeartbeats 8000000 in
theorem holds_round (M : List Int) (hl : M.length ≤ 64) (A : Nat → Nat → Int) (hA : ∀ a b, -1000000000000 ≤ A a b ∧ A a b ≤ 1000000000000) (y : Nat → Int) (hy : ∀ j, j < M.length → -1000000000000 ≤ y j ∧ y j ≤ 1000000000000) (dt : Nat → Bool) (hw : ∀ i, i < M.length → dt i = true → (roomI A dt y i M.length).1 ≤ y i ∧ y i ≤ (roomI A dt y i M.length).2.1) : ∀ n, 100 ≤ n → ∀ k s, HdI M A y dt k s → Res (k79l0.ev ⟨pg, 39, none⟩ (rc pg n) s) (Rnd (HdI M A y dt) (fun x s => x = .exit 0 ∧ HdI M A y dt 0 s) k) := by
  rintro n hn k s ⟨x, h, i, rfl, hik, v1, v11, v12, h1n, hg⟩
  by_cases hi : i < M.length
  · have w1 : IntKind.i64.wrap ((i : Int) + 1) = (i : Int) + 1 := wrap_i64 (by omega) (by omega)
    have hc1 := ints_canonL M
    have hc2 := rows_canonL M.length A
    have hc3 := yCs_canon M.length y
    have hc4 := bCs_canon M.length dt
    have c103 := fun h => call_of (h := h) (pg := pg) (f := 103) rfl (by simp [dtT, intsD, rowsD, hc1, hc2, hc3, hc4]) (room_run M hl A hA y hy dt i hi (n := n) hn)
    have y1 := yCs_len M.length y
    have b1 := bCs_len M.length dt
    have g1 := fun h' => yCs_at (y := y) hi h'
    have g3 := fun h' => bCs_at (dt := dt) hi h'
    have i1 : i + 1 ≤ M.length := hi
    simp only [dtT, intsD, rowsD] at c103 hg
    cases hd : dt i with
    | false =>
      rw [hd] at g3
      simp [-beq_iff_eq, k79l0, v1, v11, v12, hi, D.cells, D.one, hg, y1, b1, g3, i1, c103, w1]
      exact ⟨k - 1, by omega, _, _, i + 1, rfl, by omega, by simp [v1], by simp [v11], by simp, by simp <;> omega, by simp [hg, intsD, rowsD]⟩
    | true =>
      rw [hd] at g3
      obtain ⟨q1, q2⟩ := hw i hi hd
      have c53 := fun h => @within_run n (by omega) (y i) (roomI A dt y i M.length).1 (roomI A dt y i M.length).2.1 h
      have e0 : inR (y i) (roomI A dt y i M.length).1 (roomI A dt y i M.length).2.1 = true := by unfold inR; simp [q1, q2]
      rw [e0] at c53
      simp [-beq_iff_eq, k79l0, v1, v11, v12, hi, D.cells, D.one, hg, y1, b1, g1, g3, i1, c103, c53, w1]
      exact ⟨k - 1, by omega, _, _, i + 1, rfl, by omega, by simp [v1], by simp [v11], by simp, by simp <;> omega, by simp [hg, intsD, rowsD]⟩
  · simp [k79l0, v11, v12, hi]
    exact ⟨_, _, i, rfl, by omega, by simp [v1], by simp [v11], by simp [v12], by simp <;> omega, by simp [hg]⟩
theorem holds_run (M : List Int) (hl : M.length ≤ 64) (A : Nat → Nat → Int) (hA : ∀ a b, -1000000000000 ≤ A a b ∧ A a b ≤ 1000000000000) (y : Nat → Int) (hy : ∀ j, j < M.length → -1000000000000 ≤ y j ∧ y j ≤ 1000000000000) (dt : Nat → Bool) (hw : ∀ i, i < M.length → dt i = true → (roomI A dt y i M.length).1 ≤ y i ∧ y i ≤ (roomI A dt y i M.length).2.1) {n : Nat} (hn : 200 ≤ n) :
    pureCall (rc pg n) 79 [dtT M A y dt] = some (.ret (D.bool true)) := by
  obtain ⟨m, rfl, e⟩ := body (pg := pg) (f := 79) (args := [dtT M A y dt]) (show 0 < n by omega) rfl rfl
  rw [e]
  simp [k79, Env.v_ini, dtT, intsD, rowsD, D.cells, D.one, ev_loop]
  refine Res.endsAfter (lp_rule 100 (HdI M A y dt) _ (holds_round M hl A hA y hy dt hw) M.length m _ (by omega) ⟨_, _, 0, rfl, by omega, by simp, by simp, by simp, by simp, by simp [intsD, rowsD]⟩) ?_
  rintro x s ⟨rfl, x, h, j, rfl, hj, v1, _⟩
  simp
/-! ### The marks that are dated -/
def dtO (z : Bool) (a : List Nat) (q : Nat) : Bool := a.contains q || (z && q == 0)
def yO (z : Bool) (a : List Nat) (y : Nat → Int) (q : Nat) : Int := if dtO z a q then y q else 0
theorem dtO_snoc {z : Bool} {a : List Nat} {i : Nat} : (fun q => if q = i then true else dtO z a q) = dtO z (a ++ [i]) := by
  funext q
  unfold dtO
  by_cases e : q = i
  · subst e; simp
  · simp [e]
theorem yO_snoc {z : Bool} {a : List Nat} {y : Nat → Int} {i : Nat} : (fun q => if q = i then y i else yO z a y q) = yO z (a ++ [i]) y := by
  funext q
  unfold yO
  rw [← dtO_snoc]
  by_cases e : q = i
  · subst e; simp
  · simp [e]
theorem dtO_nil : dtO false [] = fun _ => false := by funext q; simp [dtO]
theorem yO_nil {y : Nat → Int} : yO false [] y = fun _ => 0 := by funext q; simp [yO, dtO]
theorem dtO_zero : (fun q => if q = 0 then true else dtO false [] q) = dtO true [] := by
  funext q; unfold dtO; by_cases e : q = 0 <;> simp [e]
theorem yO_zero {y : Nat → Int} (h : y 0 = 0) : (fun q => if q = 0 then 0 else yO false [] y q) = yO true [] y := by
  funext q; unfold yO dtO; by_cases e : q = 0
  · subst e; simp [h]
  · simp [e]
theorem yO_at {z : Bool} {a : List Nat} {y : Nat → Int} {q : Nat} (h : dtO z a q = true) : yO z a y q = y q := by unfold yO; rw [if_pos h]
theorem FOk.yO {n : Nat} {N : Mx} {z : Bool} {a : List Nat} {y : Nat → Int} (f : FOk n N (dtO z a) y) : FOk n N (dtO z a) (yO z a y) :=
  ⟨fun i j c h1 h2 h3 => by rw [yO_at h1, yO_at h2]; exact f.kept i j c h1 h2 h3, fun j hj h => by
    obtain ⟨r, h1, h2, h3, h4⟩ := f.root j hj h
    exact ⟨r, h1, h2, h3, by rw [yO_at h2]; exact h4⟩⟩
def fxF (M : List Int) (y : Nat → Int) (a : List Nat) : List Dt := a.map fun q => ⟨M.getD q 0, y q⟩
end Go.Proofs.YtjgafgkkpofgbaaDoor
/- Marks are dated as they are handed in, by the program. -/
namespace Go.Proofs.YtjgafgkkpofgbaaDoor
open Go Go.Em Go.Em.Net
set_option maxRecDepth 100000
/-- A list that grows: none yet, or a block with its cells. -/
def GX (ty sz len : Nat) (cs : List D) (h : Heap) (d : D) : Prop := (len = 0 ∧ d = .val (.slice none 0 0)) ∨ 0 < len ∧ ∃ k, d = .slr k 0 len sz none ∧ h.get k = some (.cells ty cs) ∧ k < h.next
theorem GX.keep {ty sz len : Nat} {cs : List D} {h h' : Heap} {d : D} (g : GX ty sz len cs h d) (hn : h.next ≤ h'.next) (hk : ∀ q, q < h.next → h'.get q = h.get q) : GX ty sz len cs h' d := by
  rcases g with g | ⟨g0, k, g1, g2, g3⟩
  · exact .inl g
  · exact .inr ⟨g0, k, g1, by rw [hk _ g3]; exact g2, by omega⟩
theorem fx_cells (M : List Int) (y : Nat → Int) (a : List Nat) : ((fxF M y a).flatMap dtC).length = a.length * 2 := by rw [ls_cells]; simp [fxF]
theorem fx_cell0 {M : List Int} {y : Nat → Int} : ∀ {a : List Nat} {K i : Nat}, a[K]? = some i → ((fxF M y a).flatMap dtC)[K * 2]? = some (D.int (M.getD i 0)) ∧ ((fxF M y a).flatMap dtC)[K * 2 + 1]? = some (D.int (y i))
  | [], _, _, h => by simp at h
  | b :: a, 0, i, h => by
    obtain rfl : b = i := by simpa using h
    exact ⟨rfl, rfl⟩
  | b :: a, K + 1, i, h => by
    have h' : a[K]? = some i := by simpa using h
    obtain ⟨e1, e2⟩ := fx_cell0 (M := M) (y := y) h'
    have hc : (fxF M y (b :: a)).flatMap dtC = [D.int (M.getD b 0), D.int (y b)] ++ (fxF M y a).flatMap dtC := rfl
    rw [hc, show (K + 1) * 2 = K * 2 + 2 by omega, show K * 2 + 2 + 1 = K * 2 + 1 + 2 by omega]
    exact ⟨by simpa using e1, by simpa using e2⟩
structure FxH (h0 : Heap) (M : List Int) (A : Nat → Nat → Int) (y : Nat → Int) (dt : Nat → Bool) (yb db bb : Nat) (h : Heap) : Prop where
  d : Dh M.length y dt yb db h
  b : h.get bb = some (.cells 102 [intsD M, rowsD M.length A, .slr yb 0 M.length 1 (some M.length), .slr db 0 M.length 1 (some M.length)])
  bl : bb < h.next
  yq : yb < h0.next
  dq : db < h0.next
  b0 : h0.next ≤ bb
  fr : h.Fr
  nx : h0.next ≤ h.next
  un : ∀ q, q < h0.next → q ≠ yb → q ≠ db → h.raw q = h0.raw q
theorem FxH.bump {h0 : Heap} {M : List Int} {A : Nat → Nat → Int} {y : Nat → Int} {dt : Nat → Bool} {yb db bb : Nat} {h : Heap} (f : FxH h0 M A y dt yb db bb h) (z : Nat) : FxH h0 M A y dt yb db bb (h.bump z) :=
  ⟨f.d.keep (by simp) (by simp), by simp [f.b], by have := f.bl; simp; omega, f.yq, f.dq, f.b0, f.fr.bump z, by have := f.nx; simp; omega, fun q h1 h2 h3 => by simpa using f.un q h1 h2 h3⟩
theorem FxH.put {h0 : Heap} {M : List Int} {A : Nat → Nat → Int} {y : Nat → Int} {dt : Nat → Bool} {yb db bb : Nat} {h : Heap} (f : FxH h0 M A y dt yb db bb h) {k : Nat} (c : Blk) (h1 : h0.next ≤ k) (h2 : k < h.next) (h3 : k ≠ bb) : FxH h0 M A y dt yb db bb (h.set k (some c)) := by
  have a1 := f.yq
  have a2 := f.dq
  exact ⟨⟨by simp [show yb ≠ k by omega, f.d.hy], by simp [show db ≠ k by omega, f.d.hd], by have := f.d.yl; simp; omega, by have := f.d.dl; simp; omega, f.d.ne⟩, by simp [show bb ≠ k by omega, f.b], by have := f.bl; simp; omega, a1, a2, f.b0, by
    repeat' first | exact f.fr | apply Heap.Fr.set
    all_goals first | omega | (simp <;> omega), by have := f.nx; simp; omega, fun q h1 h2 h3 => by
    have := f.un q h1 h2 h3
    simp [show q ≠ k by omega, this]⟩
theorem FxH.set {h0 : Heap} {M : List Int} {A : Nat → Nat → Int} {y y' : Nat → Int} {dt dt' : Nat → Bool} {yb db bb : Nat} {h h' : Heap} (f : FxH h0 M A y dt yb db bb h) (d : Dh M.length y' dt' yb db h') (hf : h'.Fr) (hn : h.next ≤ h'.next) (hu : ∀ q, q < h.next → q ≠ yb → q ≠ db → h'.raw q = h.raw q) : FxH h0 M A y' dt' yb db bb h' := by
  have a1 := f.yq
  have a2 := f.dq
  have a3 := f.b0
  have a5 := f.bl
  have a7 := f.nx
  exact ⟨d, by unfold Heap.get; rw [hu bb a5 (by omega) (by omega)]; exact f.b, by omega, a1, a2, a3, hf, by omega, fun q h1 h2 h3 => by rw [hu q (by omega) h2 h3]; exact f.un q h1 h2 h3⟩
def FXI (pv : D) (h0 : Heap) (M : List Int) (A : Nat → Nat → Int) (z : Bool) (a : List Nat) (y : Nat → Int) (yb db bb : Nat) (k : Nat) (s : St) : Prop := ∃ (x : Env 50) (h : Heap) (i : Nat), s = ⟨x.l, h, []⟩ ∧ i + k = a.length ∧ x.v 2 = .ptr bb 0 ∧ x.v 18 = pv ∧ x.v 19 = D.int a.length ∧ x.v 20 = D.int i ∧ GX 58 2 a.length ((fxF M y a).flatMap dtC) h pv ∧ FxH h0 M A (yO z (a.take i) y) (dtO z (a.take i)) yb db bb h
set_option maxHeartbeats 8000000 in
theorem fix_round (pv : D) (h0 : Heap) (M : List Int) (hM : Rise M) (hl : M.length ≤ 64) (A : Nat → Nat → Int) (z : Bool) (a : List Nat) (y : Nat → Int) (ha : ∀ q, q ∈ a → q < M.length) (hal : a.length ≤ 64) (hy : ∀ q, q ∈ a → -500000000 ≤ y q ∧ y q ≤ 500000000) (hz : ∀ q, q ∈ a → M.getD q 0 = 0 → y q = 0) (yb db bb : Nat) : ∀ n, 200 ≤ n → ∀ k s, FXI pv h0 M A z a y yb db bb k s → Res (k78l0.ev ⟨pg, 50, none⟩ (rc pg n) s) (Rnd (FXI pv h0 M A z a y yb db bb) (fun x s => x = .exit 0 ∧ FXI pv h0 M A z a y yb db bb 0 s) k) := by
  rintro n hn k s ⟨x, h, i, rfl, hik, v2, v18, v19, v20, gP, hF⟩
  by_cases hi : i < a.length
  · rcases gP with ⟨e, _⟩ | ⟨_, k9, rfl, g9, n9⟩
    · omega
    obtain ⟨q, hq⟩ : ∃ q, a[i] = q := ⟨_, rfl⟩
    have hqm : q ∈ a := by rw [← hq]; exact List.getElem_mem hi
    have hqn := ha q hqm
    obtain ⟨m, hm⟩ : ∃ m, M[q] = m := ⟨_, rfl⟩
    have hMq : M[q]?.getD 0 = m := by rw [List.getElem?_eq_getElem hqn, hm]; rfl
    have hcc := fx_cell0 (M := M) (y := y) (show a[i]? = some q by rw [List.getElem?_eq_getElem hi, hq])
    have hc10 := hcc.1
    have hc11 := hcc.2
    rw [List.getD_eq_getElem?_getD, hMq] at hc10
    have hcl := fx_cells M y a
    have htd : ((fxF M y a).flatMap dtC).drop (i * 2) = [D.int m, D.int (y q)] ++ ((fxF M y a).flatMap dtC).drop (i * 2 + 2) := by
      obtain ⟨d1, d1'⟩ := List.getElem?_eq_some_iff.1 hc10
      obtain ⟨d2, d2'⟩ := List.getElem?_eq_some_iff.1 hc11
      rw [List.drop_eq_getElem_cons d1, List.drop_eq_getElem_cons d2, d1', d2']; rfl
    have hK2 : i * 2 + 2 ≤ a.length * 2 := by omega
    have nk9 : ∀ j, (k9 = h.next + j) = False := fun j => by simp; omega
    have k9y : k9 ≠ yb := fun e => by
      have := hF.d.hy; rw [← e, g9] at this; cases this
    have k9d : k9 ≠ db := fun e => by
      have := hF.d.hd; rw [← e, g9] at this; cases this
    have htk : a.take (i + 1) = a.take i ++ [q] := by rw [List.take_add_one, List.getElem?_eq_getElem hi, hq]; rfl
    have hyq := hy q hqm
    have hzq := hz q hqm
    rw [List.getD_eq_getElem?_getD, hMq] at hzq
    have w1 : IntKind.i64.wrap ((i : Int) + 1) = (i : Int) + 1 := wrap_i64 (by omega) (by omega)
    have hfr : ∀ j, h.raw (h.next + j) = none := fun j => hF.fr _ (by omega)
    have hbg := hF.b
    have hc1 := ints_canonL M
    have c59 := fun h => call_of (h := h) (pg := pg) (f := 59) rfl (by simp [intsD, hc1]) (place_run M hM (by omega) q hqn (n := n) (by omega))
    rw [hm] at c59
    have c53 := fun h => @within_run n (by omega) (y q) (-500000000) 500000000 h
    have e0 : inR (y q) (-500000000) 500000000 = true := by unfold inR; simp [hyq.1, hyq.2]
    rw [e0] at c53
    have s76 : pg.sh 76 = true := rfl
    have nbl := hF.bl
    have ne1 : ∀ j, (bb = h.next + j) = False := fun j => by simp; omega
    have b0 := hF.b0
    have hnx := hF.nx
    have c59p := place_run M hM (by omega) q hqn (n := n) (by omega)
    rw [hm] at c59p
    have s59 : pg.sh 59 = false := rfl
    have hFw := ((((hF.bump 50).bump 50).put (k := h.next + 57) (.cells 58 [D.val (.int .i64 0), D.val (.int .i64 0)]) (by omega) (by simp) (by omega)).put (k := h.next + 57) (.cells 58 [D.int m, D.int (y q)]) (by omega) (by simp) (by omega))
    have hF6 := (hFw.bump 50).bump 50
    obtain ⟨h', e1, d1, f1, n1, u1⟩ := set_sh' M A hF6.d hF6.fr hqn (y q) (f := n) (by omega)
    have c76 := call_sh (pg := pg) s76 e1
    simp only [intsD, rowsD, dtS] at hbg c59 c59p c76
    have hFn := hF6.set d1 f1 n1 u1
    rw [yO_snoc, dtO_snoc, ← htk] at hFn
    have g9' : h'.get k9 = some (.cells 58 ((fxF M y a).flatMap dtC)) := by
      unfold Heap.get at g9 ⊢
      rw [u1 k9 (by simp; omega) k9y k9d]
      simp [nk9, g9]
    have n9' : k9 < h'.next := by simp at n1; omega
    by_cases hm0 : m = 0
    · have hq0 := hzq hm0
      subst hm0
      rw [hq0] at c76 c53 htd
      have hq0' : (y q != 0) = false := by simp [hq0]
      simp [-beq_iff_eq, -beq_eq_false_iff_ne, k78l0, v2, v18, v19, v20, hi, g9, hcl, htd, hK2, nk9, hq0, c53, c59, c59p, s59, hbg, hfr, ne1, D.cells, D.one, Nat.add_assoc, dcore_c, dcore_f, zer2, hc1, c76, w1]
      exact ⟨k - 1, by omega, _, _, i + 1, rfl, by omega, by simp [v2], by simp [v18], by simp [v19], by simp, .inr ⟨by omega, k9, rfl, by simpa using g9', by simp; omega⟩, hFn.bump 50⟩
    have hm0' : (m == 0) = false := by simpa using hm0
    simp [-beq_iff_eq, -beq_eq_false_iff_ne, k78l0, v2, v18, v19, v20, hi, g9, hcl, htd, hK2, nk9, hm0', c53, c59, c59p, s59, hbg, hfr, ne1, D.cells, D.one, Nat.add_assoc, dcore_c, dcore_f, zer2, hc1, c76, w1]
    exact ⟨k - 1, by omega, _, _, i + 1, rfl, by omega, by simp [v2], by simp [v18], by simp [v19], by simp, .inr ⟨by omega, k9, rfl, by simpa using g9', by simp; omega⟩, hFn.bump 50⟩
  · simp [k78l0, v19, v20, hi]
    exact ⟨_, _, i, rfl, by omega, by simp [v2], by simp [v18], by simp [v19], by simp [v20], gP.keep (by simp) (fun q _ => by simp), hF.bump _⟩
set_option maxHeartbeats 8000000 in
theorem fix_sh (pv : D) (M : List Int) (hM : Rise M) (hl : M.length ≤ 64) (A : Nat → Nat → Int) (z : Bool) (a : List Nat) (y : Nat → Int) (ha : ∀ q, q ∈ a → q < M.length) (hal : a.length ≤ 64) (hy : ∀ q, q ∈ a → -500000000 ≤ y q ∧ y q ≤ 500000000) (hz : ∀ q, q ∈ a → M.getD q 0 = 0 → y q = 0)
    (z1 : z = true → posF M 0 = 0 ∧ 0 < M.length ∧ y 0 = 0) (z0 : z = false → posF M 0 = -1) {yb db : Nat} {h : Heap} (hP : GX 58 2 a.length ((fxF M y a).flatMap dtC) h pv) (hd : Dh M.length (fun _ => 0) (fun _ => false) yb db h) (hf : h.Fr) {f : Nat} (hfl : 400 ≤ f) :
    ∃ h', (rc pg f).fn 78 [dtS M A yb db, pv] h = some (.ret (D.bool true), h') ∧ Dh M.length (yO z a y) (dtO z a) yb db h' ∧ h'.Fr ∧ h.next ≤ h'.next ∧ ∀ q, q < h.next → q ≠ yb → q ≠ db → h'.raw q = h.raw q := by
  obtain ⟨m, rfl, e⟩ := fn_body (pg := pg) (f := 78) (args := [dtS M A yb db, pv]) (h := h) (show 0 < f by omega) rfl rfl
  rw [e]
  have hfr : ∀ j, h.raw (h.next + j) = none := fun j => hf _ (by omega)
  have hyl := hd.yl
  have hdl := hd.dl
  have hc1 := ints_canonL M
  have c59 := fun h => call_of (h := h) (pg := pg) (f := 59) rfl (by simp [intsD, hc1]) (place_all M hM hl 0 (n := m) (by omega))
  have s76 : pg.sh 76 = true := rfl
  have hB : FxH h M A (yO false [] y) (dtO false []) yb db (h.next + 2) ((h.bump 50).set (h.next + 2) (some (.cells 102 [intsD M, rowsD M.length A, .slr yb 0 M.length 1 (some M.length), .slr db 0 M.length 1 (some M.length)]))) := by
    rw [yO_nil, dtO_nil]
    refine ⟨⟨by simp [show yb ≠ h.next + 2 by omega, hd.hy], by simp [show db ≠ h.next + 2 by omega, hd.hd], by simp; omega, by simp; omega, hd.ne⟩, by simp, by simp, hyl, hdl, by omega, ?_, by (try simp) <;> omega, fun q h1 h2 h3 => by simp [show q ≠ h.next + 2 by omega]⟩
    repeat' first | exact hf | apply Heap.Fr.bump | apply Heap.Fr.set
    all_goals first | omega | (simp <;> omega)
  cases hzz : z with
  | false =>
    have p0 := z0 hzz
    rw [p0] at c59
    simp only [intsD] at c59
    rcases hP with ⟨el, rfl⟩ | ⟨el, k9, rfl, g9, n9⟩
    · obtain rfl : a = [] := List.eq_nil_of_length_eq_zero el
      simp [-beq_iff_eq, k78, Env.v_ini, dtS, intsD, rowsD, hfr, D.cells, D.one, Nat.add_assoc, ev_loop, c59]
      suffices hS : ∃ d h', _ = some (Out.ret ((fun _ : Unit => D.bool true) d), h') ∧ (fun (_ : Unit) (h' : Heap) => Dh M.length (yO false ([] : List Nat) y) (dtO false ([] : List Nat)) yb db h' ∧ h'.Fr ∧ h.next ≤ h'.next ∧ ∀ q, q < h.next → ¬ q = yb → ¬ q = db → h'.raw q = h.raw q) d h' by
        obtain ⟨_, h', e1, c⟩ := hS
        exact ⟨h', e1, c⟩
      refine Res.tailG (F := fun _ : Unit => D.bool true) (lp_rule 200 (FXI (.val (.slice none 0 0)) h M A false ([] : List Nat) y yb db (h.next + 2)) _ (fix_round (.val (.slice none 0 0)) h M hM hl A false ([] : List Nat) y ha hal hy hz yb db (h.next + 2)) ([] : List Nat).length m _ (by first | omega | (simp; omega)) ⟨_, _, 0, rfl, by simp, by simp, by simp, by simp, by simp, (.inl ⟨rfl, rfl⟩), ?_⟩) ?_
      · rw [List.take_zero]; simpa [intsD, rowsD] using (((hB.bump 50).bump 50).bump 50)
      · rintro x s ⟨rfl, x, h', i, rfl, hi, v2, v18, v19, v20, gP, hF⟩
        have hil : i = ([] : List Nat).length := by simpa using hi
        subst hil
        have hF' := hF.bump 50
        rw [List.take_length] at hF'
        exact ⟨(), _, by simp, hF'.d, hF'.fr, hF'.nx, fun q h1 h2 h3 => hF'.un q h1 h2 h3⟩
    · have n9f : (k9 = h.next + 2) = False := by simp; omega
      simp [-beq_iff_eq, k78, Env.v_ini, dtS, intsD, rowsD, hfr, D.cells, D.one, Nat.add_assoc, ev_loop, c59]
      suffices hS : ∃ d h', _ = some (Out.ret ((fun _ : Unit => D.bool true) d), h') ∧ (fun (_ : Unit) (h' : Heap) => Dh M.length (yO false a y) (dtO false a) yb db h' ∧ h'.Fr ∧ h.next ≤ h'.next ∧ ∀ q, q < h.next → ¬ q = yb → ¬ q = db → h'.raw q = h.raw q) d h' by
        obtain ⟨_, h', e1, c⟩ := hS
        exact ⟨h', e1, c⟩
      refine Res.tailG (F := fun _ : Unit => D.bool true) (lp_rule 200 (FXI (.slr k9 0 a.length 2 none) h M A false a y yb db (h.next + 2)) _ (fix_round (.slr k9 0 a.length 2 none) h M hM hl A false a y ha hal hy hz yb db (h.next + 2)) a.length m _ (by first | omega | (simp; omega)) ⟨_, _, 0, rfl, by simp, by simp, by simp, by simp, by simp, (.inr ⟨el, k9, rfl, by simp [n9f, g9], by simp; omega⟩), ?_⟩) ?_
      · rw [List.take_zero]; simpa [intsD, rowsD] using (((hB.bump 50).bump 50).bump 50)
      · rintro x s ⟨rfl, x, h', i, rfl, hi, v2, v18, v19, v20, gP, hF⟩
        have hil : i = a.length := by simpa using hi
        subst hil
        have hF' := hF.bump 50
        rw [List.take_length] at hF'
        exact ⟨(), _, by simp, hF'.d, hF'.fr, hF'.nx, fun q h1 h2 h3 => hF'.un q h1 h2 h3⟩
  | true =>
    obtain ⟨p0, p1, p2⟩ := z1 hzz
    rw [p0] at c59
    have hB3 := (((hB.bump 50).bump 50).bump 50)
    obtain ⟨h1, e1, d1, f1, n1, u1⟩ := set_sh' M A hB3.d hB3.fr p1 0 (f := m) (by omega)
    have c76 := call_sh (pg := pg) s76 e1
    have hB1 := hB3.set d1 f1 n1 u1
    rw [dtO_zero, yO_zero p2] at hB1
    have z00 : ((0 : Nat) : Int) = 0 := rfl
    simp only [intsD, rowsD, dtS, z00] at c59 c76
    rcases hP with ⟨el, rfl⟩ | ⟨el, k9, rfl, g9, n9⟩
    · obtain rfl : a = [] := List.eq_nil_of_length_eq_zero el
      simp [-beq_iff_eq, k78, Env.v_ini, dtS, intsD, rowsD, hfr, D.cells, D.one, Nat.add_assoc, ev_loop, c59, c76, bne]
      suffices hS : ∃ d h', _ = some (Out.ret ((fun _ : Unit => D.bool true) d), h') ∧ (fun (_ : Unit) (h' : Heap) => Dh M.length (yO true ([] : List Nat) y) (dtO true ([] : List Nat)) yb db h' ∧ h'.Fr ∧ h.next ≤ h'.next ∧ ∀ q, q < h.next → ¬ q = yb → ¬ q = db → h'.raw q = h.raw q) d h' by
        obtain ⟨_, h', e1, c⟩ := hS
        exact ⟨h', e1, c⟩
      refine Res.tailG (F := fun _ : Unit => D.bool true) (lp_rule 200 (FXI (.val (.slice none 0 0)) h M A true ([] : List Nat) y yb db (h.next + 2)) _ (fix_round (.val (.slice none 0 0)) h M hM hl A true ([] : List Nat) y ha hal hy hz yb db (h.next + 2)) ([] : List Nat).length m _ (by first | omega | (simp; omega)) ⟨_, _, 0, rfl, by simp, by simp, by simp, by simp, by simp, (.inl ⟨rfl, rfl⟩), ?_⟩) ?_
      · rw [List.take_zero]; simpa [intsD, rowsD] using (hB1.bump 50)
      · rintro x s ⟨rfl, x, h', i, rfl, hi, v2, v18, v19, v20, gP, hF⟩
        have hil : i = ([] : List Nat).length := by simpa using hi
        subst hil
        have hF' := hF.bump 50
        rw [List.take_length] at hF'
        exact ⟨(), _, by simp, hF'.d, hF'.fr, hF'.nx, fun q h1 h2 h3 => hF'.un q h1 h2 h3⟩
    · have n9f : (k9 = h.next + 2) = False := by simp; omega
      have k9y : k9 ≠ yb := fun e => by
        have := hd.hy; rw [← e, g9] at this; cases this
      have k9d : k9 ≠ db := fun e => by
        have := hd.hd; rw [← e, g9] at this; cases this
      have g9h : h1.get k9 = some (.cells 58 ((fxF M y a).flatMap dtC)) := by
        unfold Heap.get at g9 ⊢
        rw [u1 k9 (by simp; omega) k9y k9d]
        simp [n9f, g9]
      have n9h : k9 < h1.next := by simp at n1; omega
      simp [-beq_iff_eq, k78, Env.v_ini, dtS, intsD, rowsD, hfr, D.cells, D.one, Nat.add_assoc, ev_loop, c59, c76, bne]
      suffices hS : ∃ d h', _ = some (Out.ret ((fun _ : Unit => D.bool true) d), h') ∧ (fun (_ : Unit) (h' : Heap) => Dh M.length (yO true a y) (dtO true a) yb db h' ∧ h'.Fr ∧ h.next ≤ h'.next ∧ ∀ q, q < h.next → ¬ q = yb → ¬ q = db → h'.raw q = h.raw q) d h' by
        obtain ⟨_, h', e1, c⟩ := hS
        exact ⟨h', e1, c⟩
      refine Res.tailG (F := fun _ : Unit => D.bool true) (lp_rule 200 (FXI (.slr k9 0 a.length 2 none) h M A true a y yb db (h.next + 2)) _ (fix_round (.slr k9 0 a.length 2 none) h M hM hl A true a y ha hal hy hz yb db (h.next + 2)) a.length m _ (by first | omega | (simp; omega)) ⟨_, _, 0, rfl, by simp, by simp, by simp, by simp, by simp, (.inr ⟨el, k9, rfl, by simp [g9h], by simp; omega⟩), ?_⟩) ?_
      · rw [List.take_zero]; simpa [intsD, rowsD] using (hB1.bump 50)
      · rintro x s ⟨rfl, x, h', i, rfl, hi, v2, v18, v19, v20, gP, hF⟩
        have hil : i = a.length := by simpa using hi
        subst hil
        have hF' := hF.bump 50
        rw [List.take_length] at hF'
        exact ⟨(), _, by simp, hF'.d, hF'.fr, hF'.nx, fun q h1 h2 h3 => hF'.un q h1 h2 h3⟩
end Go.Proofs.YtjgafgkkpofgbaaDoor
/- Extend, by the program. -/
namespace Go.Proofs.YtjgafgkkpofgbaaDoor
open Go Go.Em Go.Em.Net
set_option maxRecDepth 100000
/-- The mark that was handed in last. -/
def laF (M : List Int) (a : List Nat) : Nat → Int
  | 0 => -1
  | i + 1 => M.getD (a.getD i 0) 0
def EXI (pv : D) (M : List Int) (G : D) (a : List Nat) (y : Nat → Int) (h0 : Heap) (b7 : Nat) (k : Nat) (s : St) : Prop := ∃ (x : Env 62) (h : Heap) (i : Nat), s = ⟨x.l, h, []⟩ ∧ i + k = a.length ∧ x.v 1 = pv ∧ x.v 7 = .ptr b7 0 ∧ x.v 8 = D.int (laF M a i) ∧ x.v 21 = pv ∧ x.v 22 = D.int a.length ∧ x.v 23 = D.int i ∧ h.get b7 = some (.cells 95 [intsD M, G]) ∧ b7 < h.next ∧ GX 58 2 a.length ((fxF M y a).flatMap dtC) h pv ∧ h0.next ≤ h.next ∧ (∀ q, q < h0.next → h.raw q = h0.raw q) ∧ h.Fr
set_option maxHeartbeats 8000000 in
theorem ext_round (pv : D) (M : List Int) (G : D) (hM : Rise M) (hn0 : ∀ m, m ∈ M → 0 ≤ m) (hl : M.length ≤ 64) (a : List Nat) (y : Nat → Int) (ha : ∀ q, q ∈ a → q < M.length) (hs : a.Pairwise (· < ·)) (hal : a.length ≤ 64) (h0 : Heap) (b7 : Nat) : ∀ n, 200 ≤ n → ∀ k s, EXI pv M G a y h0 b7 k s → Res (k38l0.ev ⟨pg, 62, none⟩ (rc pg n) s) (Rnd (EXI pv M G a y h0 b7) (fun x s => x = .exit 0 ∧ EXI pv M G a y h0 b7 0 s) k) := by
  rintro n hn k s ⟨x, h, i, rfl, hik, v1, v7, v8, v21, v22, v23, hg, hb, gP, hnx, hun, hf⟩
  by_cases hi : i < a.length
  · rcases gP with ⟨e, _⟩ | ⟨_, k9, rfl, g9, n9⟩
    · omega
    obtain ⟨q, hq⟩ : ∃ q, a[i] = q := ⟨_, rfl⟩
    have hqm : q ∈ a := by rw [← hq]; exact List.getElem_mem hi
    have hqn := ha q hqm
    obtain ⟨m, hm⟩ : ∃ m, M[q] = m := ⟨_, rfl⟩
    have hMq : M[q]?.getD 0 = m := by rw [List.getElem?_eq_getElem hqn, hm]; rfl
    have w1 : IntKind.i64.wrap ((i : Int) + 1) = (i : Int) + 1 := wrap_i64 (by omega) (by omega)
    have hlast : laF M a i < m := by
      cases i with
      | zero =>
        have := hn0 m (by rw [← hm]; exact List.getElem_mem hqn)
        show (-1 : Int) < m; omega
      | succ i =>
        have hp := List.pairwise_iff_getElem.1 hs i (i + 1) (by omega) hi (by omega)
        have hpn := ha _ (List.getElem_mem (show i < a.length by omega))
        show M.getD (a.getD i 0) 0 < m
        rw [List.getD_eq_getElem?_getD, List.getD_eq_getElem?_getD, List.getElem?_eq_getElem (show i < a.length by omega), Option.getD_some, List.getElem?_eq_getElem hpn, Option.getD_some, ← hm]
        exact List.pairwise_iff_getElem.1 hM _ _ hpn hqn (by rw [hq] at hp; exact hp)
    have hnl : ¬ (m ≤ laF M a i) := by omega
    have hla : laF M a (i + 1) = m := by
      show M.getD (a.getD i 0) 0 = m
      rw [List.getD_eq_getElem?_getD, List.getD_eq_getElem?_getD, List.getElem?_eq_getElem hi, Option.getD_some, hq, hMq]
    have hcc := fx_cell0 (M := M) (y := y) (show a[i]? = some q by rw [List.getElem?_eq_getElem hi, hq])
    have hc10 := hcc.1
    have hc11 := hcc.2
    rw [List.getD_eq_getElem?_getD, hMq] at hc10
    have hcl := fx_cells M y a
    have htd : ((fxF M y a).flatMap dtC).drop (i * 2) = [D.int m, D.int (y q)] ++ ((fxF M y a).flatMap dtC).drop (i * 2 + 2) := by
      obtain ⟨d1, d1'⟩ := List.getElem?_eq_some_iff.1 hc10
      obtain ⟨d2, d2'⟩ := List.getElem?_eq_some_iff.1 hc11
      rw [List.drop_eq_getElem_cons d1, List.drop_eq_getElem_cons d2, d1', d2']; rfl
    have hK2 : i * 2 + 2 ≤ a.length * 2 := by omega
    have nk9 : ∀ j, (k9 = h.next + j) = False := fun j => by simp; omega
    have hfr : ∀ j, h.raw (h.next + j) = none := fun j => hf _ (by omega)
    have hc1 := ints_canonL M
    have c59 := fun h => call_of (h := h) (pg := pg) (f := 59) rfl (by simp [intsD, hc1]) (place_run M hM (by omega) q hqn (n := n) (by omega))
    rw [hm] at c59
    have hq1 : ((q : Int) == -1) = false := by simp
    have ne1 : ∀ j, (b7 = h.next + j) = False := fun j => by simp; omega
    simp only [intsD] at hg c59
    simp [-beq_iff_eq, -beq_eq_false_iff_ne, k38l0, v1, v7, v8, v21, v22, v23, hi, g9, hcl, htd, hK2, nk9, hnl, c59, hq1, hg, hfr, ne1, D.cells, D.one, Nat.add_assoc, zer2, w1]
    refine ⟨k - 1, by omega, _, _, i + 1, rfl, by omega, by simp [v1], by simp [v7], by simp [hla], by simp [v21], by simp [v22], by simp, by simp [ne1, hg, intsD], by simp; omega, .inr ⟨by omega, k9, rfl, by simp [nk9, g9], by simp; omega⟩, by simp; omega, fun q hq => by
      have := hun q hq
      simp [show ∀ j, ¬ q = h.next + j from fun j => by omega, this], ?_⟩
    repeat' first | exact hf | apply Heap.Fr.bump | apply Heap.Fr.set
    all_goals first | omega | (simp <;> omega)
  · simp [k38l0, v22, v23, hi]
    exact ⟨_, _, i, rfl, by omega, by simp [v1], by simp [v7], by simp [v8], by simp [v21], by simp [v22], by simp [v23], by simp [hg], by simp; omega, gP.keep (by simp) (fun q _ => by simp), by simp; omega, fun q hq => by simp [hun q hq], hf.bump _⟩
theorem frz_dt1 (M : List Int) (A : Nat → Nat → Int) {y : Nat → Int} {dt : Nat → Bool} {yb db : Nat} {h : Heap} (h1 : h.get yb = some (.cells 3 (yCs M.length y))) (h2 : h.get db = some (.cells 4 (bCs M.length dt))) : each (frz h depth) [dtS M A yb db] = some ([dtT M A y dt], [yb, db]) := by
  have c1 := fun n => each_canon h n _ (ints_canonL M)
  have c2 := fun n => each_canon h n _ (rows_canonL M.length A)
  have c3 := fun n => each_canon h n _ (yCs_canon M.length y)
  have c4 := fun n => each_canon h n _ (bCs_canon M.length dt)
  have l1 := yCs_len M.length y
  have l2 := bCs_len M.length dt
  have t1 : (yCs M.length y).take M.length = yCs M.length y := List.take_of_length_le (by omega)
  have t2 : (bCs M.length dt).take M.length = bCs M.length dt := List.take_of_length_le (by omega)
  have k1 := chunk_one M.length _ l1
  have k2 := chunk_one M.length _ l2
  simp [dtS, dtT, intsD, rowsD, h1, h2, c1, c2, c3, c4, l1, l2, t1, t2, k1, k2]
theorem marks_nn {l : List Clm} (h0 : chkF l = 0) (m : Int) (h : m ∈ marksF l) : 0 ≤ m := by
  obtain ⟨c, hc, e⟩ := (marks_mem l m).1 h
  have := ok_marks ((chk_ok h0).2.1 c hc)
  rcases e with e | e <;> omega
/-- Whether the datum is among the marks. -/
def hasZ (M : List Int) : Bool := M.head? == some 0
theorem hasZ_pos {l : List Clm} (h0 : chkF l = 0) : (hasZ (marksF l) = true → posF (marksF l) 0 = 0 ∧ 0 < (marksF l).length) ∧ (hasZ (marksF l) = false → posF (marksF l) 0 = -1) := by
  have hn := marks_nn h0
  have hr := marks_rise l
  obtain ⟨M, hM⟩ : ∃ M, M = marksF l := ⟨_, rfl⟩
  rw [← hM] at hn hr ⊢
  cases M with
  | nil => simp [hasZ, posF]
  | cons b M =>
    constructor
    · intro h
      have hb : b = 0 := by simpa [hasZ] using h
      subst hb
      exact ⟨by unfold posF placeF; rw [if_pos List.mem_cons_self]; simp, by simp⟩
    · intro h
      have hb : b ≠ 0 := by simpa [hasZ] using h
      unfold posF
      rw [if_neg]
      intro h'
      rcases List.mem_cons.1 h' with e | e
      · exact hb e.symm
      · have h1 := (List.pairwise_cons.1 hr).1 0 e
        have := hn b List.mem_cons_self
        omega
theorem FOk.in_room {n : Nat} {N : Mx} {dt : Nat → Bool} {y : Nat → Int} (f : FOk n N dt y) (h : Clsd n N) (hb : Bt N) {i : Nat} (hi : i < n) (hd : dt i = true) : (roomI (encM N) dt y i n).1 ≤ y i ∧ y i ≤ (roomI (encM N) dt y i n).2.1 := by
  have hy := f.bd h hb hi hd
  rw [room_lo, room_hi]
  refine ⟨⟨by omega, fun j hj hdj hf => ?_⟩, by omega, fun j hj hdj hf => ?_⟩
  · have hn : N i j ≠ none := fun e => hf ((far_iff hb).2 e)
    obtain ⟨c, hc⟩ := Option.ne_none_iff_exists'.1 hn
    rw [enc_some hc]
    have := f.kept i j c hd hdj hc
    omega
  · have hn : N i j ≠ none := fun e => hf ((far_iff hb).2 e)
    obtain ⟨c, hc⟩ := Option.ne_none_iff_exists'.1 (h.sym hn)
    rw [enc_some hc]
    exact f.kept j i c hdj hd hc
/-- The state of the program when it begins to date the other marks. -/
def exS (z : Bool) (a : List Nat) (y : Nat → Int) : Fs := ⟨dtO z a, yO z a y, 0⟩
def exY (l : List Clm) (a : List Nat) (y : Nat → Int) : Nat → Int := (fillN (encM (cloF l)) (marksF l).length [] (exS (hasZ (marksF l)) a y) (marksF l).length).y
def k38t : Cd :=
  .seq (.region [⟨none, (some 43), .inl (.ld true 2 (.s 7))⟩,
    ⟨none, (some 44), .inr (.fn 64 [(.s 43)])⟩,
    ⟨none, (some 42), .inl (.mv (.s 44))⟩,
    ⟨none, (some 45), .inl (.ex (.s 42) 0)⟩,
    ⟨none, (some 46), .inl (.ex (.s 42) 1)⟩,
    ⟨none, (some 11), .inl (.alloc 90 [(.slice none 0 0), (.slice none 0 0)])⟩,
    ⟨none, none, .inl (.st 2 (.s 11) (.s 45))⟩,
    ⟨none, (some 12), .inl (.mv (.s 46))⟩])
  (.seq (.seq (.region [⟨none, (some 47), .inl (.mv (.s 12))⟩,
    ⟨none, (some 48), .inl (.not (.s 47))⟩])
  (.cond (.s 48) (.seq (.region [⟨none, (some 4), .inl (.mv (.c (.slice none 0 0)))⟩,
     ⟨none, (some 5), .inl (.mv (.c (.int .i64 25)))⟩])
   (.ret))
  (.skip)))
  (.seq (.region [⟨none, (some 49), .inl (.ld true 2 (.s 11))⟩,
    ⟨none, (some 50), .inr (.fn 71 [(.s 49)])⟩,
    ⟨none, (some 13), .inl (.alloc 102 [(.slice none 0 0), (.slice none 0 0), (.slice none 0 0), (.slice none 0 0)])⟩,
    ⟨none, none, .inl (.st 4 (.s 13) (.s 50))⟩])
  (.seq (.seq (.region [⟨none, (some 51), .inl (.ld true 4 (.s 13))⟩,
    ⟨none, (some 52), .inl (.mv (.s 1))⟩,
    ⟨none, (some 53), .inr (.fn 78 [(.s 51), (.s 52)])⟩,
    ⟨none, (some 54), .inl (.not (.s 53))⟩,
    ⟨none, (some 55), .inl (.mv (.s 54))⟩,
    ⟨(some (55, false)), (some 56), .inl (.ld true 4 (.s 13))⟩,
    ⟨(some (55, false)), (some 57), .inr (.fn 79 [(.s 56)])⟩,
    ⟨(some (55, false)), (some 58), .inl (.not (.s 57))⟩,
    ⟨none, (some 59), .inl (.pick (.s 55) (.c (.bool true)) (.s 58))⟩])
  (.cond (.s 59) (.seq (.region [⟨none, (some 4), .inl (.mv (.c (.slice none 0 0)))⟩,
     ⟨none, (some 5), .inl (.mv (.c (.int .i64 23)))⟩])
   (.ret))
  (.skip)))
  (.seq (.region [⟨none, (some 60), .inl (.ld true 4 (.s 13))⟩,
    ⟨none, (some 61), .inr (.fn 72 [(.s 60), (.c (.slice none 0 0))])⟩,
    ⟨none, (some 4), .inl (.mv (.s 61))⟩,
    ⟨none, (some 5), .inl (.mv (.c (.int .i64 0)))⟩])
  (.ret)))))
theorem k38_eq : k38 = .seq (.region [⟨none, (some 4), .inl (.mv (.c (.slice none 0 0)))⟩,
    ⟨none, (some 5), .inl (.mv (.c (.int .i64 0)))⟩])
  (.seq (.seq (.region [⟨none, (some 14), .inl (.mv (.s 0))⟩,
    ⟨none, (some 15), .inr (.fn 52 [(.s 14)])⟩,
    ⟨none, (some 6), .inl (.mv (.s 15))⟩])
  (.seq (.region [⟨none, (some 16), .inl (.mv (.s 6))⟩,
    ⟨none, (some 17), .inl (.bin .neq (.s 16) (.c (.int .i64 0)))⟩])
  (.cond (.s 17) (.seq (.region [⟨none, (some 18), .inl (.mv (.s 6))⟩,
     ⟨none, (some 4), .inl (.mv (.c (.slice none 0 0)))⟩,
     ⟨none, (some 5), .inl (.mv (.s 18))⟩])
   (.ret))
  (.skip))))
  (.seq (.region [⟨none, (some 19), .inl (.mv (.s 0))⟩,
    ⟨none, (some 20), .inr (.fn 65 [(.s 19), (.f 66)])⟩,
    ⟨none, (some 7), .inl (.alloc 95 [(.slice none 0 0), (.slice none 0 0)])⟩,
    ⟨none, none, .inl (.st 2 (.s 7) (.s 20))⟩])
  (.seq (.region [⟨none, (some 8), .inl (.mv (.c (.int .i64 (-1))))⟩])
  (.seq (.seq (.region [⟨none, (some 21), .inl (.mv (.s 1))⟩,
    ⟨none, (some 22), .inl (.len (.s 21))⟩,
    ⟨none, (some 23), .inl (.mv (.c (.int .i64 0)))⟩])
  (.block 0 (.loop k38l0)))
  k38t)))) := rfl
set_option maxHeartbeats 8000000 in
theorem ext_tail (l : List Clm) (h0 : chkF l = 0) (hbad : badF l = false) (a : List Nat) (y : Nat → Int) (ha : ∀ q, q ∈ a → q < (marksF l).length) (hal : a.length ≤ 64) (hF : FOk (marksF l).length (cloF l) (dtO (hasZ (marksF l)) a) y) (hz : hasZ (marksF l) = true → y 0 = 0) {pv : D}
    (x : Env 62) (H : Heap) (b7 : Nat) (v1 : x.v 1 = pv) (v7 : x.v 7 = .ptr b7 0) (hg : H.get b7 = some (.cells 95 [intsD (marksF l), mosD (movsF (marksF l) 0 l)])) (hb : b7 < H.next) (hP : GX 58 2 a.length ((fxF (marksF l) y a).flatMap dtC) H pv) (hf : H.Fr) {m : Nat} (hm : 1200 ≤ m) :
    ∃ lb h', endH (rc pg m) [(.tmp 4, false, 0), (.tmp 5, false, 0)] (k38t.ev ⟨pg, 62, none⟩ (rc pg m) ⟨x.l, H, []⟩) = some (.ret (.tup [.slr lb 0 (marksF l).length 2 (some (marksF l).length), D.int 0]), h') ∧ h'.get lb = some (.cells 58 ((lsF (marksF l) (exY l a y) (marksF l).length).flatMap dtC)) ∧ lb < h'.next ∧ H.next ≤ lb ∧ h'.Fr ∧ H.next ≤ h'.next ∧ ∀ q, q < H.next → h'.raw q = H.raw q := by
  have c48 := fun h => call_of (h := h) (pg := pg) (f := 64) rfl (gr_canon (marksF l) (movsF (marksF l) 0 l)) (@closure_all l h0 m (by omega))
  rw [hbad] at c48
  simp only [cond_false] at c48
  have hl := (chk_ok h0).2.2
  have bt := clo_small h0 hbad
  have c := clo_clsd h0 hbad
  have hr := marks_rise l
  obtain ⟨zp, zn⟩ := hasZ_pos h0
  have hbd : ∀ j, j < (marksF l).length → dtO (hasZ (marksF l)) a j = true → -200000000 ≤ y j ∧ y j ≤ 200000000 := fun j hj hd => hF.bd c bt hj hd
  have hyO : ∀ j, j < (marksF l).length → -200000000 ≤ yO (hasZ (marksF l)) a y j ∧ yO (hasZ (marksF l)) a y j ≤ 200000000 := fun j hj => by
    cases hd : dtO (hasZ (marksF l)) a j with
    | true => rw [yO_at hd]; exact hbd j hj hd
    | false => unfold yO; rw [hd]; simp
  have hyO' : ∀ j, -1000000000 ≤ yO (hasZ (marksF l)) a y j ∧ yO (hasZ (marksF l)) a y j ≤ 1000000000 := fun j => by
    by_cases hj : j < (marksF l).length
    · have := hyO j hj; omega
    · unfold yO dtO
      rw [if_neg]
      · omega
      · intro h
        rcases Bool.or_eq_true _ _ ▸ h with h | h
        · exact hj (ha j (by simpa using h))
        · obtain ⟨h1, h2⟩ := Bool.and_eq_true _ _ ▸ h
          have := (zp h1).2
          have : j = 0 := by simpa using h2
          omega
  have in_a : ∀ q, q ∈ a → dtO (hasZ (marksF l)) a q = true := fun q hq => by unfold dtO; simp [hq]
  have hfr : ∀ j, H.raw (H.next + j) = none := fun j => hf _ (by omega)
  have ne1 : ∀ j, (b7 = H.next + j) = False := fun j => by simp; omega
  have s71 : pg.sh 71 = true := rfl
  have s78 : pg.sh 78 = true := rfl
  have s79 : pg.sh 79 = false := rfl
  have s72 : pg.sh 72 = true := rfl
  obtain ⟨H1, hH1⟩ : ∃ H1, H1 = ((((H.bump 62).set (H.next + 11) (some (.cells 90 [D.val (.slice none 0 0), D.val (.slice none 0 0)]))).set (H.next + 11) (some (.cells 90 [intsD (marksF l), rowsD (marksF l).length (encM (cloF l))]))).bump 62).bump 62 := ⟨_, rfl⟩
  have f1 : H1.Fr := by
    rw [hH1]
    repeat' first | exact hf | apply Heap.Fr.bump | apply Heap.Fr.set
    all_goals first | omega | (simp <;> omega)
  have n1 : H1.next = H.next + 186 := by rw [hH1]; simp
  have hA := enc_bd bt
  obtain ⟨yb, db, h1, e71, d1, f71, yl, dl, un1⟩ := nwd_sh (marksF l) (encM (cloF l)) hl f1 (f := m) (by omega)
  have c71 := call_sh (pg := pg) s71 e71
  obtain ⟨u1n, u1r⟩ := un1
  obtain ⟨H2, hH2⟩ : ∃ H2, H2 = ((h1.set (H.next + 137) (some (.cells 102 [D.val (.slice none 0 0), D.val (.slice none 0 0), D.val (.slice none 0 0), D.val (.slice none 0 0)]))).set (H.next + 137) (some (.cells 102 [intsD (marksF l), rowsD (marksF l).length (encM (cloF l)), .slr yb 0 (marksF l).length 1 (some (marksF l).length), .slr db 0 (marksF l).length 1 (some (marksF l).length)]))).bump 62 := ⟨_, rfl⟩
  have f2 : H2.Fr := by
    rw [hH2]
    repeat' first | exact f71 | apply Heap.Fr.bump | apply Heap.Fr.set
    all_goals first | omega | (simp <;> omega)
  have d2 : Dh (marksF l).length (fun _ => 0) (fun _ => false) yb db H2 := by
    rw [hH2]
    exact ⟨by simp [show yb ≠ H.next + 137 by omega, d1.hy], by simp [show db ≠ H.next + 137 by omega, d1.hd], by have := d1.yl; simp; omega, by have := d1.dl; simp; omega, d1.ne⟩
  have g2 : H2.get (H.next + 137) = some (.cells 102 [intsD (marksF l), rowsD (marksF l).length (encM (cloF l)), .slr yb 0 (marksF l).length 1 (some (marksF l).length), .slr db 0 (marksF l).length 1 (some (marksF l).length)]) := by rw [hH2]; simp
  have n2 : H.next + 186 ≤ H2.next := by rw [hH2]; simp; omega
  have hr2 : ∀ q, q < H.next → H2.raw q = H.raw q := fun q hq => by
    rw [hH2]
    simp [show q ≠ H.next + 137 by omega]
    rw [u1r _ (by omega), hH1]
    simp [show q ≠ H.next + 11 by omega]
  have hP2 : GX 58 2 a.length ((fxF (marksF l) y a).flatMap dtC) H2 pv := hP.keep (by omega) (fun q hq => by unfold Heap.get; rw [hr2 q hq])
  obtain ⟨h3, e78, d3, f3, n3, u3⟩ := fix_sh pv (marksF l) hr hl (encM (cloF l)) (hasZ (marksF l)) a y ha hal (fun q hq => by have := hbd q (ha q hq) (in_a q hq); omega) (fun q hq h => by
    have hqn := ha q hq
    have h00 : (marksF l)[q] = 0 := by rw [List.getD_eq_getElem?_getD, List.getElem?_eq_getElem hqn] at h; exact h
    have hq0 : q = 0 := by
      apply Decidable.byContradiction; intro hne
      have h5 := List.pairwise_iff_getElem.1 hr 0 q (by omega) hqn (by omega)
      have h6 := marks_nn h0 _ (List.getElem_mem (show 0 < (marksF l).length by omega))
      omega
    subst hq0
    exact hz (by unfold hasZ; rw [List.head?_eq_getElem?, List.getElem?_eq_getElem hqn, h00]; rfl)) (fun h => ⟨(zp h).1, (zp h).2, hz h⟩) zn hP2 d2 f2 (f := m) (by omega)
  have c78 := call_sh (pg := pg) s78 e78
  have g3 : h3.get (H.next + 137) = some (.cells 102 [intsD (marksF l), rowsD (marksF l).length (encM (cloF l)), .slr yb 0 (marksF l).length 1 (some (marksF l).length), .slr db 0 (marksF l).length 1 (some (marksF l).length)]) := by
    unfold Heap.get; rw [u3 _ (by omega) (by omega) (by omega)]; exact g2
  have e79 := holds_run (marksF l) hl (encM (cloF l)) hA (yO (hasZ (marksF l)) a y) (fun j hj => by have := hyO j hj; omega) (dtO (hasZ (marksF l)) a) (fun i hi hd => hF.yO.in_room c bt hi hd) (n := m) (by omega)
  have c79 := callfz (h := h3) s79 (frz_dt1 (marksF l) (encM (cloF l)) d3.hy d3.hd) e79 rfl
  have d4 := d3.keep (h' := h3.bump 62) (by simp) (by simp)
  have f5 := f3.bump 62
  have F := fillH_of h0 hbad (p := []) (by simp) (s0 := exS (hasZ (marksF l)) a y) rfl hF.yO hyO'
  obtain ⟨lb, h4, q1, q2, q3, q4, q5, q6, q7, q8⟩ := fill_sh (marksF l) (encM (cloF l)) [] (exS (hasZ (marksF l)) a y) F rfl (pv := .val (.slice none 0 0)) (.inr ⟨rfl, rfl⟩) d4 f5 (f := m) (by omega)
  have c72 := call_sh (pg := pg) s72 q1
  have g1 : H1.get (H.next + 11) = some (.cells 90 [intsD (marksF l), rowsD (marksF l).length (encM (cloF l))]) := by rw [hH1]; simp
  have r1 : h1.raw (H.next + 137) = none := by
    rw [u1r _ (by omega), hH1]
    simp [hfr]
  simp only [grD, nD, intsD, mosD, rowsD, dtS] at c48 hg hH1 hH2 c71 c78 c79 c72 g1 g2 g3
  simp [-beq_iff_eq, -beq_eq_false_iff_ne, k38t, v1, v7, hg, c48, hfr, ne1, D.cells, D.one, Nat.add_assoc, ← hH1, c71, g1, ← hH2, c78, g2, g3, c79, r1, c72]
  exact ⟨lb, _, ⟨rfl, rfl⟩, q2, q5, by simp at q4; omega, q6, by simp at q7; omega, fun q hq => by rw [q8 q (by simp; omega) (by omega) (by omega)]; simp; rw [u3 q (by omega) (by omega) (by omega), hr2 q hq]⟩
set_option maxHeartbeats 8000000 in
theorem extend_sh (l : List Clm) (h0 : chkF l = 0) (hbad : badF l = false) (a : List Nat) (y : Nat → Int) (ha : ∀ q, q ∈ a → q < (marksF l).length) (hs : a.Pairwise (· < ·)) (hal : a.length ≤ 64) (hF : FOk (marksF l).length (cloF l) (dtO (hasZ (marksF l)) a) y) (hz : hasZ (marksF l) = true → y 0 = 0) {pv : D} {h : Heap} (hP : GX 58 2 a.length ((fxF (marksF l) y a).flatMap dtC) h pv) (hf : h.Fr) {f : Nat} (hfl : 1400 ≤ f) :
    ∃ lb h', (rc pg f).fn 38 [clsD l, pv] h = some (.ret (.tup [.slr lb 0 (marksF l).length 2 (some (marksF l).length), D.int 0]), h') ∧ h'.get lb = some (.cells 58 ((lsF (marksF l) (exY l a y) (marksF l).length).flatMap dtC)) ∧ lb < h'.next ∧ h.next ≤ lb ∧ h'.Fr ∧ h.next ≤ h'.next ∧ ∀ q, q < h.next → h'.raw q = h.raw q := by
  obtain ⟨m, rfl, e⟩ := fn_body (pg := pg) (f := 38) (args := [clsD l, pv]) (h := h) (show 0 < f by omega) rfl rfl
  rw [e]
  have c30 := fun h => call_of (h := h) (pg := pg) (f := 52) rfl (cls_canon l) (@chk_run l m (by omega))
  rw [h0] at c30
  have c46 := fun h => call_of (h := h) (pg := pg) (f := 65) rfl (two_ok l) (@graph_run l h0 m (by omega))
  have hl := (chk_ok h0).2.2
  have hfr : ∀ j, h.raw (h.next + j) = none := fun j => hf _ (by omega)
  simp only [clsD, eachD, grD, intsD, mosD] at c30 c46
  rcases hP with ⟨el, rfl⟩ | ⟨el, k9, rfl, g9, n9⟩
  · obtain rfl : a = [] := List.eq_nil_of_length_eq_zero el
    simp [-beq_iff_eq, k38_eq, Env.v_ini, clsD, D.cells, D.one, c30, c46, hfr, Nat.add_assoc, ev_loop]
    suffices hS : ∃ d h', _ = some (Out.ret ((fun lb : Nat => D.tup [.slr lb 0 (marksF l).length 2 (some (marksF l).length), D.int 0]) d), h') ∧ (fun (lb : Nat) (h' : Heap) => h'.get lb = some (.cells 58 ((lsF (marksF l) (exY l ([] : List Nat) y) (marksF l).length).flatMap dtC)) ∧ lb < h'.next ∧ h.next ≤ lb ∧ h'.Fr ∧ h.next ≤ h'.next ∧ ∀ q, q < h.next → h'.raw q = h.raw q) d h' by
      obtain ⟨lb, h', e1, c⟩ := hS
      exact ⟨lb, h', e1, c⟩
    refine Res.tailG (F := fun lb : Nat => D.tup [.slr lb 0 (marksF l).length 2 (some (marksF l).length), D.int 0]) (lp_rule 200 (EXI (.val (.slice none 0 0)) (marksF l) (mosD (movsF (marksF l) 0 l)) ([] : List Nat) y h (h.next + 193)) _ (ext_round (.val (.slice none 0 0)) (marksF l) (mosD (movsF (marksF l) 0 l)) (marks_rise l) (marks_nn h0) hl ([] : List Nat) y ha hs hal h (h.next + 193)) ([] : List Nat).length m _ (by first | omega | (simp; omega)) ⟨_, _, 0, rfl, by simp, by simp [Env.v_ini], by simp, by simp [laF], by simp, by simp, by simp, by simp [intsD, mosD], by simp <;> omega, (.inl ⟨rfl, rfl⟩), by simp; omega, fun q hq => by simp [show ∀ j, ¬ q = h.next + j from fun j => by omega], ?_⟩) ?_
    · repeat' first | exact hf | apply Heap.Fr.bump | apply Heap.Fr.set
      all_goals first | omega | (simp <;> omega)
    · rintro x s ⟨rfl, x, h', i, rfl, hi, v1, v7, v8, v21, v22, v23, hg, hb, gP, hnx, hun, hf'⟩
      obtain ⟨lb, h'', e1, e2, e3, e4, e5, e6, e7⟩ := ext_tail l h0 hbad ([] : List Nat) y ha hal hF hz x h' (h.next + 193) v1 v7 hg hb gP hf' (m := m) (by omega)
      exact ⟨lb, h'', by simpa using e1, e2, e3, by omega, e5, by omega, fun q hq => by rw [e7 q (by omega), hun q hq]⟩
  · have n9f : ∀ j, (k9 = h.next + j) = False := fun j => by simp; omega
    simp [-beq_iff_eq, k38_eq, Env.v_ini, clsD, D.cells, D.one, c30, c46, hfr, Nat.add_assoc, ev_loop]
    suffices hS : ∃ d h', _ = some (Out.ret ((fun lb : Nat => D.tup [.slr lb 0 (marksF l).length 2 (some (marksF l).length), D.int 0]) d), h') ∧ (fun (lb : Nat) (h' : Heap) => h'.get lb = some (.cells 58 ((lsF (marksF l) (exY l a y) (marksF l).length).flatMap dtC)) ∧ lb < h'.next ∧ h.next ≤ lb ∧ h'.Fr ∧ h.next ≤ h'.next ∧ ∀ q, q < h.next → h'.raw q = h.raw q) d h' by
      obtain ⟨lb, h', e1, c⟩ := hS
      exact ⟨lb, h', e1, c⟩
    refine Res.tailG (F := fun lb : Nat => D.tup [.slr lb 0 (marksF l).length 2 (some (marksF l).length), D.int 0]) (lp_rule 200 (EXI (.slr k9 0 a.length 2 none) (marksF l) (mosD (movsF (marksF l) 0 l)) a y h (h.next + 193)) _ (ext_round (.slr k9 0 a.length 2 none) (marksF l) (mosD (movsF (marksF l) 0 l)) (marks_rise l) (marks_nn h0) hl a y ha hs hal h (h.next + 193)) a.length m _ (by first | omega | (simp; omega)) ⟨_, _, 0, rfl, by simp, by simp [Env.v_ini], by simp, by simp [laF], by simp, by simp, by simp, by simp [intsD, mosD], by simp <;> omega, (.inr ⟨el, k9, rfl, by simp [n9f, g9], by simp; omega⟩), by simp; omega, fun q hq => by simp [show ∀ j, ¬ q = h.next + j from fun j => by omega], ?_⟩) ?_
    · repeat' first | exact hf | apply Heap.Fr.bump | apply Heap.Fr.set
      all_goals first | omega | (simp <;> omega)
    · rintro x s ⟨rfl, x, h', i, rfl, hi, v1, v7, v8, v21, v22, v23, hg, hb, gP, hnx, hun, hf'⟩
      obtain ⟨lb, h'', e1, e2, e3, e4, e5, e6, e7⟩ := ext_tail l h0 hbad a y ha hal hF hz x h' (h.next + 193) v1 v7 hg hb gP hf' (m := m) (by omega)
      exact ⟨lb, h'', by simpa using e1, e2, e3, by omega, e5, by omega, fun q hq => by rw [e7 q (by omega), hun q hq]⟩
end Go.Proofs.YtjgafgkkpofgbaaDoor
/- Years of some marks that break no bound are those of a chronology: mathematics. -/
namespace Go.Proofs.YtjgafgkkpofgbaaDoor
open Go Go.Em Go.Em.Net
set_option maxRecDepth 100000
theorem ex_full {l : List Clm} (h0 : chkF l = 0) (hb : badF l = false) {a : List Nat} {y : Nat → Int} (hF : FOk (marksF l).length (cloF l) (dtO (hasZ (marksF l)) a) y) (hz : hasZ (marksF l) = true → y 0 = 0) :
    keepF l (lsF (marksF l) (exY l a y) (marksF l).length) = 0 ∧ (∀ q, q ∈ a → exY l a y q = y q) ∧ ∀ j, j < (marksF l).length → -200000000 ≤ exY l a y j ∧ exY l a y j ≤ 200000000 := by
  have c := clo_clsd h0 hb
  have bt := clo_small h0 hb
  obtain ⟨f, d⟩ := fillN_ok (s := exS (hasZ (marksF l)) a y) hF.yO c bt (clo_out h0) [] (marksF l).length (Nat.le_refl _)
  have bnd : ∀ j, j < (marksF l).length → -200000000 ≤ exY l a y j ∧ exY l a y j ≤ 200000000 := fun j hj => f.bd c bt hj (d j hj)
  have at_ : ∀ q, dtO (hasZ (marksF l)) a q = true → exY l a y q = y q := fun q hq => by
    have := (fillN_keep (A := encM (cloF l)) (n := (marksF l).length) (p := []) (s := exS (hasZ (marksF l)) a y) (k := 0) (q := q) hq (marksF l).length).2
    rw [Nat.zero_add] at this
    show (fillN (encM (cloF l)) (marksF l).length [] (exS (hasZ (marksF l)) a y) (marksF l).length).y q = y q
    rw [this]
    exact yO_at hq
  refine ⟨keep_ok h0 hb (fun i j z hi hj hz => f.kept i j z (d i hi) (d j hj) hz) (fun j hj => by have := bnd j hj; omega) (fun hn hm => ?_), fun q hq => at_ q (by unfold dtO; simp [hq]), bnd⟩
  have hh : hasZ (marksF l) = true := by unfold hasZ; rw [List.head?_eq_getElem?, List.getElem?_eq_getElem hn, hm]; rfl
  rw [at_ 0 (by unfold dtO; simp [hh])]
  exact hz hh
/-! ### The years that the law chooses -/
theorem FOk.freeV {n : Nat} {N : Mx} {dt : Nat → Bool} {y : Nat → Int} (f : FOk n N dt y) (h : Clsd n N) {i : Nat} (hi : i < n) (hd : dt i = false) (hno : ∀ j, dt j = true → N i j = none) {v : Int} (hv : -100000000 ≤ v ∧ v ≤ 100000000) : FOk n N (fun q => if q = i then true else dt q) (fun q => if q = i then v else y q) := by
  refine ⟨h.put f.kept hi (fun j a hj ha => by rw [hno j hj] at ha; cases ha) (fun j b hj hb' => ?_) hd, fun j hj hdj => ?_⟩
  · have := h.sym (show N j i ≠ none by rw [hb']; simp)
    exact absurd (hno j hj) this
  · by_cases e : j = i
    · subst e
      exact ⟨j, hj, by simp, by rw [h.diag j hj]; simp, by simp [hv.1], by simp [hv.2]⟩
    · simp only [e, if_false] at hdj
      obtain ⟨r, h1, h2, h3, h4, h5⟩ := f.root j hj hdj
      have hri : r ≠ i := fun e => by subst e; rw [hd] at h2; cases h2
      exact ⟨r, h1, by simp [h2], h3, by simp [hri, h4], by simp [hri, h5]⟩
/-- What one dated mark leaves. -/
def rgS (A : Nat → Nat → Int) (y : Nat → Int) (j : Nat) (r : Int × Int × Bool) (i : Nat) : Int × Int × Bool :=
  if A i j = 1000000000 ∨ A j i = 1000000000 then r else if r.2.2 then (y i - A j i, y i + A i j, false) else (max r.1 (y i - A j i), min r.2.1 (y i + A i j), false)
def rgF (A : Nat → Nat → Int) (y : Nat → Int) (j : Nat) (lo hi : Int) (b : List Nat) : Int × Int × Bool := b.foldl (rgS A y j) (lo, hi, true)
theorem rg_snoc {A : Nat → Nat → Int} {y : Nat → Int} {j : Nat} {lo hi : Int} {b : List Nat} {i : Nat} : rgF A y j lo hi (b ++ [i]) = rgS A y j (rgF A y j lo hi b) i := by unfold rgF; rw [List.foldl_append]; rfl
theorem rg_spec {N : Mx} (hb : Bt N) (hsym : ∀ i j, N i j ≠ none → N j i ≠ none) {y : Nat → Int} {j : Nat} {lo hi : Int} (b : List Nat) : ∀ K, K ≤ b.length →
    ((rgF (encM N) y j lo hi (b.take K)).2.2 = true → rgF (encM N) y j lo hi (b.take K) = (lo, hi, true) ∧ ∀ i, i ∈ b.take K → N j i = none) ∧
    ((rgF (encM N) y j lo hi (b.take K)).2.2 = false → (∃ i, i ∈ b.take K ∧ N j i ≠ none) ∧ (∀ v, (rgF (encM N) y j lo hi (b.take K)).1 ≤ v ↔ ∀ i, i ∈ b.take K → N j i ≠ none → y i - encM N j i ≤ v) ∧ ∀ v, v ≤ (rgF (encM N) y j lo hi (b.take K)).2.1 ↔ ∀ i, i ∈ b.take K → N j i ≠ none → v ≤ y i + encM N i j)
  | 0, _ => ⟨fun _ => ⟨rfl, fun i h => by simp at h⟩, fun h => by simp [rgF] at h⟩
  | K + 1, hK => by
    have hk : K < b.length := hK
    obtain ⟨ih1, ih2⟩ := rg_spec hb hsym (y := y) (j := j) (lo := lo) (hi := hi) b K (by omega)
    have hb1 : b.take (K + 1) = b.take K ++ [b[K]] := by rw [List.take_add_one, List.getElem?_eq_getElem hk]; rfl
    obtain ⟨i, hi'⟩ : ∃ i, b[K] = i := ⟨_, rfl⟩
    rw [hi'] at hb1
    rw [hb1, rg_snoc]
    obtain ⟨r, hr⟩ : ∃ r, r = rgF (encM N) y j lo hi (b.take K) := ⟨_, rfl⟩
    rw [← hr] at ih1 ih2 ⊢
    have hmem : ∀ q, q ∈ b.take K ++ [i] ↔ q ∈ b.take K ∨ q = i := fun q => by simp
    unfold rgS
    by_cases hn : N j i = none
    · have h1 : encM N j i = 1000000000 := (enc_far hb).2 hn
      rw [if_pos (.inr h1)]
      refine ⟨fun h => ⟨(ih1 h).1, fun q hq => ?_⟩, fun h => ?_⟩
      · rcases (hmem q).1 hq with e | e
        · exact (ih1 h).2 q e
        · subst e; exact hn
      · obtain ⟨⟨q, hq, hq2⟩, e1, e2⟩ := ih2 h
        refine ⟨⟨q, (hmem q).2 (.inl hq), hq2⟩, fun v => ?_, fun v => ?_⟩
        · rw [e1 v]
          exact ⟨fun H q hq hqn => by
            rcases (hmem q).1 hq with e | e
            · exact H q e hqn
            · subst e; exact absurd hn hqn, fun H q hq hqn => H q ((hmem q).2 (.inl hq)) hqn⟩
        · rw [e2 v]
          exact ⟨fun H q hq hqn => by
            rcases (hmem q).1 hq with e | e
            · exact H q e hqn
            · subst e; exact absurd hn hqn, fun H q hq hqn => H q ((hmem q).2 (.inl hq)) hqn⟩
    · have h1 : encM N j i ≠ 1000000000 := fun e => hn ((enc_far hb).1 e)
      have h2 : encM N i j ≠ 1000000000 := fun e => hsym j i hn ((enc_far hb).1 e)
      rw [if_neg (fun e => e.elim h2 h1)]
      cases hf : r.2.2 with
      | true =>
        obtain ⟨_, q2⟩ := ih1 hf
        simp only [if_true]
        refine ⟨fun h => (by cases h), fun _ => ⟨⟨i, (hmem i).2 (.inr rfl), hn⟩, fun v => ⟨fun H q hq hqn => ?_, fun H => H i ((hmem i).2 (.inr rfl)) hn⟩, fun v => ⟨fun H q hq hqn => ?_, fun H => H i ((hmem i).2 (.inr rfl)) hn⟩⟩⟩
        · rcases (hmem q).1 hq with e | e
          · exact absurd (q2 q e) hqn
          · subst e; exact H
        · rcases (hmem q).1 hq with e | e
          · exact absurd (q2 q e) hqn
          · subst e; exact H
      | false =>
        obtain ⟨⟨q0, hq0, hq02⟩, e1, e2⟩ := ih2 hf
        simp only [Bool.false_eq_true, if_false]
        refine ⟨fun h => (by cases h), fun _ => ⟨⟨i, (hmem i).2 (.inr rfl), hn⟩, fun v => ?_, fun v => ?_⟩⟩
        · rw [Int.max_le, e1 v]
          constructor
          · rintro ⟨H, H2⟩ q hq hqn
            rcases (hmem q).1 hq with e | e
            · exact H q e hqn
            · subst e; exact H2
          · exact fun H => ⟨fun q hq => H q ((hmem q).2 (.inl hq)), H i ((hmem i).2 (.inr rfl)) hn⟩
        · rw [Int.le_min, e2 v]
          constructor
          · rintro ⟨H, H2⟩ q hq hqn
            rcases (hmem q).1 hq with e | e
            · exact H q e hqn
            · subst e; exact H2
          · exact fun H => ⟨fun q hq => H q ((hmem q).2 (.inl hq)), H i ((hmem i).2 (.inr rfl)) hn⟩
/-- All marks that are dated, the datum among them. -/
def allB (z : Bool) (a : List Nat) : List Nat := if z then a ++ [0] else a
theorem allB_mem {z : Bool} {a : List Nat} {q : Nat} : q ∈ allB z a ↔ dtO z a q = true := by
  unfold allB dtO
  cases z <;> simp
/-- The law's choice breaks no bound. -/
theorem rg_step {l : List Clm} (h0 : chkF l = 0) (hb : badF l = false) {z : Bool} {a : List Nat} {y : Nat → Int} {j : Nat} (hj : j < (marksF l).length) (hF : FOk (marksF l).length (cloF l) (dtO z a) y) (hd : dtO z a j = false) (ha : ∀ q, dtO z a q = true → q < (marksF l).length) :
    (rgF (encM (cloF l)) y j (-1000) 1000 (allB z a)).1 ≤ (rgF (encM (cloF l)) y j (-1000) 1000 (allB z a)).2.1 ∧ -400000000 ≤ (rgF (encM (cloF l)) y j (-1000) 1000 (allB z a)).1 ∧ (rgF (encM (cloF l)) y j (-1000) 1000 (allB z a)).2.1 ≤ 400000000 ∧
      ∀ v, (rgF (encM (cloF l)) y j (-1000) 1000 (allB z a)).1 ≤ v → v ≤ (rgF (encM (cloF l)) y j (-1000) 1000 (allB z a)).2.1 → FOk (marksF l).length (cloF l) (dtO z (a ++ [j])) (fun q => if q = j then v else y q) := by
  have c := clo_clsd h0 hb
  have bt := clo_small h0 hb
  have ho := clo_out h0
  obtain ⟨s1, s2⟩ := rg_spec bt (fun i j h => c.sym h) (y := y) (j := j) (lo := -1000) (hi := 1000) (allB z a) (allB z a).length (Nat.le_refl _)
  rw [List.take_length] at s1 s2
  obtain ⟨r, hr⟩ : ∃ r, r = rgF (encM (cloF l)) y j (-1000) 1000 (allB z a) := ⟨_, rfl⟩
  rw [← hr] at s1 s2 ⊢
  rw [← dtO_snoc]
  cases hf : r.2.2 with
  | true =>
    obtain ⟨e, no⟩ := s1 hf
    rw [e]
    refine ⟨by decide, by decide, by decide, fun v h1 h2 => hF.freeV c hj hd (fun q hq => no q (allB_mem.2 hq)) ?_⟩
    simp only at h1 h2
    omega
  | false =>
    obtain ⟨⟨i0, hi0, hn0⟩, e1, e2⟩ := s2 hf
    have hd0 := allB_mem.1 hi0
    have hi0n := ha i0 hd0
    have hfree : (roomI (encM (cloF l)) (dtO z a) y j (marksF l).length).2.2 = false := by
      cases h : (roomI (encM (cloF l)) (dtO z a) y j (marksF l).length).2.2 with
      | false => rfl
      | true => exact absurd ((far_iff bt).1 (room_free.1 h i0 hi0n hd0)) hn0
    obtain ⟨t1, t2, t3, t4⟩ := hF.tied c bt hj hd ho hfree
    have lo_iff : ∀ v, r.1 ≤ v → v ≤ r.2.1 → (roomI (encM (cloF l)) (dtO z a) y j (marksF l).length).1 ≤ v ∧ v ≤ (roomI (encM (cloF l)) (dtO z a) y j (marksF l).length).2.1 := by
      intro v h1 h2
      have g1 := (e1 v).1 h1
      have g2 := (e2 v).1 h2
      obtain ⟨u, hu⟩ := Option.ne_none_iff_exists'.1 hn0
      obtain ⟨w, hw⟩ := Option.ne_none_iff_exists'.1 (c.sym hn0)
      have k1 := g1 i0 hi0 hn0
      have k2 := g2 i0 hi0 hn0
      rw [enc_some hu] at k1
      rw [enc_some hw] at k2
      have := bt _ _ _ hu
      have := bt _ _ _ hw
      have := hF.bd c bt hi0n hd0
      rw [room_lo, room_hi]
      exact ⟨⟨by omega, fun q _ hdq hfq => g1 q (allB_mem.2 hdq) (fun e => hfq ((far_iff bt).2 e))⟩, by omega, fun q _ hdq hfq => g2 q (allB_mem.2 hdq) (fun e => hfq ((far_iff bt).2 e))⟩
    have hi_iff : ∀ v, (roomI (encM (cloF l)) (dtO z a) y j (marksF l).length).1 ≤ v → v ≤ (roomI (encM (cloF l)) (dtO z a) y j (marksF l).length).2.1 → r.1 ≤ v ∧ v ≤ r.2.1 := by
      intro v h1 h2
      have g1 := (room_lo.1 h1).2
      have g2 := (room_hi.1 h2).2
      rw [e1 v, e2 v]
      exact ⟨fun q hq hqn => g1 q (ha q (allB_mem.1 hq)) (allB_mem.1 hq) (fun e => hqn ((far_iff bt).1 e)), fun q hq hqn => g2 q (ha q (allB_mem.1 hq)) (allB_mem.1 hq) (fun e => hqn ((far_iff bt).1 e))⟩
    obtain ⟨p1, p2⟩ := hi_iff _ (Int.le_refl _) t1
    obtain ⟨p3, p4⟩ := hi_iff _ t1 (Int.le_refl _)
    obtain ⟨q1, q2⟩ := lo_iff r.1 (Int.le_refl _) (by omega)
    obtain ⟨q3, q4⟩ := lo_iff r.2.1 (by omega) (Int.le_refl _)
    exact ⟨by omega, by omega, by omega, fun v h1 h2 => by
      obtain ⟨a1, a2⟩ := lo_iff v h1 h2
      exact t4 v a1 a2⟩
end Go.Proofs.YtjgafgkkpofgbaaDoor
/- Years of some marks that break no bound are those of a chronology: the law's loop over the marks that are dated. -/
namespace Go.Proofs.YtjgafgkkpofgbaaDoor
open Go Go.Em Go.Em.Net
set_option maxRecDepth 100000
def L0I (A : Nat → Nat → Int) (y : Nat → Int) (a : List Nat) (j : Nat) (lo hi : Int) (x0 : Env 284) (h0 : Heap) (k : Nat) (s : St) : Prop := ∃ (x : Env 284) (h : Heap) (K : Nat), s = ⟨x.l, h, []⟩ ∧ K + k = a.length ∧ (∀ q, q < 13 → x.v q = x0.v q) ∧ (∀ q, 43 < q → q < 47 → x.v q = x0.v q) ∧ x.v 79 = x0.v 79 ∧ x.v 80 = D.int a.length ∧ x.v 81 = D.int K ∧ x.v 13 = D.int (rgF A y j lo hi (a.take K)).1 ∧ x.v 14 = D.int (rgF A y j lo hi (a.take K)).2.1 ∧ x.v 15 = D.bool (rgF A y j lo hi (a.take K)).2.2 ∧ (∀ q, h.get q = h0.get q) ∧ h0.next ≤ h.next ∧ h.Fr
set_option maxHeartbeats 8000000 in
theorem rng_round (M : List Int) (hl : M.length ≤ 64) (A : Nat → Nat → Int) (hA : ∀ a b, -1000000000000 ≤ A a b ∧ A a b ≤ 1000000000000) (y : Nat → Int) (a : List Nat) (hal : a.length ≤ 64) (ha : ∀ q, q ∈ a → q < M.length) (hy : ∀ q, q ∈ a → -1000000000 ≤ y q ∧ y q ≤ 1000000000) (j : Nat) (hj : j < M.length) (m lo hi : Int) (hm : a ≠ [] → m ≠ 0) (x0 : Env 284) (h0 : Heap) (b7 : Nat) (d9 : D) (v7 : x0.v 7 = .ptr b7 0) (hg7 : h0.get b7 = some (.cells 42 [intsD M, rowsD M.length A])) (v9 : x0.v 9 = d9) (g9 : GX 58 2 a.length ((fxF M y a).flatMap dtC) h0 d9) (d10 : D) (v79 : x0.v 79 = d10) (g10 : GX 3 1 a.length (a.map fun q : Nat => D.int (q : Int)) h0 d10) (v11 : x0.v 11 = D.int j) (v12 : x0.v 12 = D.int m) : ∀ n, 1 ≤ n → ∀ k s, L0I A y a j lo hi x0 h0 k s → Res (k10l0.ev ⟨pg, 284, none⟩ (rc pg n) s) (Rnd (L0I A y a j lo hi x0 h0) (fun x s => x = .exit 2 ∧ L0I A y a j lo hi x0 h0 0 s) k) := by
  rintro n hn k s ⟨x, h, K, rfl, hKk, sm, sm2, w79, w80, w81, w13, w14, w15, hh, hnx, hf⟩
  have u7 := sm 7 (by omega)
  have u9 := sm 9 (by omega)
  have u11 := sm 11 (by omega)
  have u12 := sm 12 (by omega)
  rw [v7] at u7
  rw [v9] at u9
  rw [v11] at u11
  rw [v12] at u12
  rw [v79] at w79
  by_cases hK : K < a.length
  · have hane : a ≠ [] := fun e => by rw [e] at hK; exact absurd hK (Nat.not_lt_zero _)
    have hm0 : (m != 0) = true := by simpa using hm hane
    obtain ⟨i, hi'⟩ : ∃ i, a[K] = i := ⟨_, rfl⟩
    have hia : i ∈ a := by rw [← hi']; exact List.getElem_mem hK
    have hin := ha i hia
    have hiy := hy i hia
    have q1 := hA i j
    have q2 := hA j i
    rcases g9 with ⟨g9, _⟩ | ⟨_, k9, rfl, g9, n9⟩
    · omega
    rcases g10 with ⟨g10, _⟩ | ⟨_, k10, rfl, g10, n10⟩
    · omega
    rw [← hh k9] at g9
    rw [← hh k10] at g10
    rw [← hh b7] at hg7
    have hc := fx_cell0 (M := M) (y := y) (show a[K]? = some i by rw [List.getElem?_eq_getElem hK, hi'])
    have hc1 := hc.2
    have hcl := fx_cells M y a
    have t1 : a.take (K + 1) = a.take K ++ [i] := by rw [List.take_add_one, List.getElem?_eq_getElem hK, hi']; rfl
    obtain ⟨r, hr⟩ : ∃ r, r = rgF A y j lo hi (a.take K) := ⟨_, rfl⟩
    have hstep : rgF A y j lo hi (a.take (K + 1)) = rgS A y j r i := by rw [t1, rg_snoc, hr]
    rw [← hr] at w13 w14 w15
    have y1 := fun a => yCs_len M.length a
    have e1 := fun h' => yCs_at (y := A i) hj h'
    have e2 := fun h' => yCs_at (y := A j) hin h'
    have i1 : i + 1 ≤ M.length := hin
    have i2 : j + 1 ≤ M.length := hj
    have x1 : IntKind.i64.wrap (y i - A j i) = y i - A j i := wrap_i64 (by omega) (by omega)
    have x2 : IntKind.i64.wrap (y i + A i j) = y i + A i j := wrap_i64 (by omega) (by omega)
    have x3 : IntKind.i64.wrap ((K : Int) + 1) = (K : Int) + 1 := wrap_i64 (by omega) (by omega)
    have hK1 : K + 1 ≤ a.length := hK
    have hK2 : K * 2 + 1 + 1 ≤ a.length * 2 := by omega
    simp only [intsD, rowsD] at hg7
    by_cases f1 : A i j = 1000000000
    · have f1' : (A i j == 1000000000) = true := by simpa using f1
      simp [-beq_iff_eq, -bne_iff_ne, -beq_eq_false_iff_ne, k10l0, u7, u9, u11, u12, w79, w80, w81, w13, w14, w15, hK, hK1, hK2, hi', hg7, g9, g10, hc1, hcl, hin, hj, i1, i2, y1, e1, e2, hm0, x1, x2, x3, D.cells, D.one, f1']
      exact ⟨k - 1, by omega, _, _, K + 1, rfl, by omega, fun q hq => by
        have ne : ∀ t, 13 ≤ t → (t = q) = False := fun t ht => by simp; omega
        rw [← sm q hq]; simp [ne], fun q h1 h2 => by
        have ne : ∀ t, 47 ≤ t → (t = q) = False := fun t ht => by simp; omega
        have ne' : ∀ t, t ≤ 43 → (t = q) = False := fun t ht => by simp; omega
        rw [← sm2 q h1 h2]; simp [ne, ne'], by simp [w79, v79], by simp [w80], by simp, by rw [hstep, rgS]; simp [w13, f1], by rw [hstep, rgS]; simp [w14, f1], by rw [hstep, rgS]; simp [w15, f1], fun q => by simp [hh], by simp; omega, by
        repeat' first | exact hf | apply Heap.Fr.bump⟩
    · have f1' : (A i j == 1000000000) = false := by simpa using f1
      by_cases f2 : A j i = 1000000000
      · have f2' : (A j i == 1000000000) = true := by simpa using f2
        simp [-beq_iff_eq, -bne_iff_ne, -beq_eq_false_iff_ne, k10l0, u7, u9, u11, u12, w79, w80, w81, w13, w14, w15, hK, hK1, hK2, hi', hg7, g9, g10, hc1, hcl, hin, hj, i1, i2, y1, e1, e2, hm0, x1, x2, x3, D.cells, D.one, f1', f2']
        exact ⟨k - 1, by omega, _, _, K + 1, rfl, by omega, fun q hq => by
          have ne : ∀ t, 13 ≤ t → (t = q) = False := fun t ht => by simp; omega
          rw [← sm q hq]; simp [ne], fun q h1 h2 => by
          have ne : ∀ t, 47 ≤ t → (t = q) = False := fun t ht => by simp; omega
          have ne' : ∀ t, t ≤ 43 → (t = q) = False := fun t ht => by simp; omega
          rw [← sm2 q h1 h2]; simp [ne, ne'], by simp [w79, v79], by simp [w80], by simp, by rw [hstep, rgS]; simp [w13, f2], by rw [hstep, rgS]; simp [w14, f2], by rw [hstep, rgS]; simp [w15, f2], fun q => by simp [hh], by simp; omega, by
          repeat' first | exact hf | apply Heap.Fr.bump⟩
      · have f2' : (A j i == 1000000000) = false := by simpa using f2
        cases hf1 : r.2.2 with
        | true =>
          rw [hf1] at w15
          simp [-beq_iff_eq, -bne_iff_ne, -beq_eq_false_iff_ne, k10l0, u7, u9, u11, u12, w79, w80, w81, w13, w14, w15, hK, hK1, hK2, hi', hg7, g9, g10, hc1, hcl, hin, hj, i1, i2, y1, e1, e2, hm0, x1, x2, x3, D.cells, D.one, f1', f2']
          exact ⟨k - 1, by omega, _, _, K + 1, rfl, by omega, fun q hq => by
            have ne : ∀ t, 13 ≤ t → (t = q) = False := fun t ht => by simp; omega
            rw [← sm q hq]; simp [ne], fun q h1 h2 => by
            have ne : ∀ t, 47 ≤ t → (t = q) = False := fun t ht => by simp; omega
            have ne' : ∀ t, t ≤ 43 → (t = q) = False := fun t ht => by simp; omega
            rw [← sm2 q h1 h2]; simp [ne, ne'], by simp [w79, v79], by simp [w80], by simp, by rw [hstep, rgS]; simp [w13, f1, f2, hf1], by rw [hstep, rgS]; simp [w14, f1, f2, hf1], by rw [hstep, rgS]; simp [w15, f1, f2, hf1], fun q => by simp [hh], by simp; omega, by
            repeat' first | exact hf | apply Heap.Fr.bump⟩
        | false =>
          rw [hf1] at w15
          simp [-beq_iff_eq, -bne_iff_ne, -beq_eq_false_iff_ne, k10l0, u7, u9, u11, u12, w79, w80, w81, w13, w14, w15, hK, hK1, hK2, hi', hg7, g9, g10, hc1, hcl, hin, hj, i1, i2, y1, e1, e2, hm0, x1, x2, x3, D.cells, D.one, f1', f2']
          exact ⟨k - 1, by omega, _, _, K + 1, rfl, by omega, fun q hq => by
            have ne : ∀ t, 13 ≤ t → (t = q) = False := fun t ht => by simp; omega
            rw [← sm q hq]; simp [ne], fun q h1 h2 => by
            have ne : ∀ t, 47 ≤ t → (t = q) = False := fun t ht => by simp; omega
            have ne' : ∀ t, t ≤ 43 → (t = q) = False := fun t ht => by simp; omega
            rw [← sm2 q h1 h2]; simp [ne, ne'], by simp [w79, v79], by simp [w80], by simp, by rw [hstep, rgS]; simp [w13, f1, f2, hf1], by rw [hstep, rgS]; simp [w14, f1, f2, hf1], by rw [hstep, rgS]; simp [w15, f1, f2, hf1], fun q => by simp [hh], by simp; omega, by
            repeat' first | exact hf | apply Heap.Fr.bump⟩
  · simp [k10l0, w80, w81, hK]
    exact ⟨_, _, K, rfl, by omega, fun q hq => by
      have ne : ∀ t, 13 ≤ t → (t = q) = False := fun t ht => by simp; omega
      rw [← sm q hq]; simp [ne], fun q h1 h2 => by
      have ne : ∀ t, 47 ≤ t → (t = q) = False := fun t ht => by simp; omega
      rw [← sm2 q h1 h2]; simp [ne], by simp [w79, v79], by simp [w80], by simp [w81], by simp [w13], by simp [w14], by simp [w15], fun q => by simp [hh], by simp; omega, hf.bump _⟩
end Go.Proofs.YtjgafgkkpofgbaaDoor
/- Years of some marks that break no bound are those of a chronology: the law's loop over the marks, its end. -/
namespace Go.Proofs.YtjgafgkkpofgbaaDoor
open Go Go.Em Go.Em.Net
set_option maxRecDepth 100000
def k10f : Cd :=
  .seq (.seq (.region [⟨none, (some 232), .inl (.mv (.s 13))⟩,
    ⟨none, (some 233), .inl (.mv (.s 14))⟩,
    ⟨none, (some 234), .inl (.bin .gtr (.s 232) (.s 233))⟩])
  (.cond (.s 234) (.seq (.region [⟨none, (some 6), .inl (.mv (.c (.bool false)))⟩])
   (.ret))
  (.skip)))
  (.seq (.region [⟨none, (some 235), .inl (.mv (.s 9))⟩,
    ⟨none, (some 236), .inl (.mv (.s 12))⟩,
    ⟨none, (some 237), .inl (.mv (.s 13))⟩,
    ⟨none, (some 238), .inl (.mv (.s 2))⟩,
    ⟨none, (some 239), .inl (.mv (.s 11))⟩,
    ⟨none, (some 240), .inr (.fn 37 [(.s 238), (.s 239)])⟩,
    ⟨none, (some 241), .inl (.mv (.s 14))⟩,
    ⟨none, (some 242), .inl (.mv (.s 13))⟩,
    ⟨none, (some 243), .inl (.bin .sub (.s 241) (.s 242))⟩,
    ⟨none, (some 244), .inl (.bin .add (.s 243) (.c (.int .i64 1)))⟩,
    ⟨none, (some 245), .inr (.fn 28 [(.s 240), (.s 244)])⟩,
    ⟨none, (some 246), .inl (.bin .add (.s 237) (.s 245))⟩,
    ⟨none, (some 247), .inl (.bld [(.int .i64 0), (.int .i64 0)] [(0, 1, (.s 236)), (1, 1, (.s 246))])⟩,
    ⟨none, (some 248), .inl (.bs 58 2 1 [(.int .i64 0), (.int .i64 0)] [(0, (.s 247))])⟩,
    ⟨none, (some 249), .inl (.app 58 2 16 (.s 235) (.s 248))⟩,
    ⟨none, (some 9), .inl (.mv (.s 249))⟩])
  (.region [⟨none, (some 250), .inl (.mv (.s 10))⟩,
    ⟨none, (some 251), .inl (.mv (.s 11))⟩,
    ⟨none, (some 252), .inl (.bs 3 1 1 [(.int .i64 0)] [(0, (.s 251))])⟩,
    ⟨none, (some 253), .inl (.app 3 1 8 (.s 250) (.s 252))⟩,
    ⟨none, (some 10), .inl (.mv (.s 253))⟩]))
def k10e : Cd :=
  .seq (.seq (.region [⟨none, (some 172), .inl (.mv (.s 12))⟩,
    ⟨none, (some 173), .inl (.bin .neq (.s 172) (.c (.int .i64 0)))⟩,
    ⟨none, (some 174), .inl (.mv (.s 173))⟩,
    ⟨(some (174, true)), (some 175), .inl (.fa (.s 7) 0)⟩,
    ⟨(some (174, true)), (some 176), .inl (.ld false 1 (.s 175))⟩,
    ⟨(some (174, true)), (some 177), .inl (.len (.s 176))⟩,
    ⟨(some (174, true)), (some 178), .inl (.bin .gtr (.s 177) (.c (.int .i64 0)))⟩,
    ⟨none, (some 179), .inl (.pick (.s 174) (.s 178) (.c (.bool false)))⟩,
    ⟨none, (some 180), .inl (.mv (.s 179))⟩,
    ⟨(some (180, true)), (some 181), .inl (.fa (.s 7) 0)⟩,
    ⟨(some (180, true)), (some 182), .inl (.ld false 1 (.s 181))⟩,
    ⟨(some (180, true)), (some 183), .inl (.ias 1 (.s 182) (.c (.int .i64 0)))⟩,
    ⟨(some (180, true)), (some 184), .inl (.ld false 1 (.s 183))⟩,
    ⟨(some (180, true)), (some 185), .inl (.bin .eql (.s 184) (.c (.int .i64 0)))⟩,
    ⟨none, (some 186), .inl (.pick (.s 180) (.s 185) (.c (.bool false)))⟩,
    ⟨none, (some 187), .inl (.mv (.s 186))⟩,
    ⟨(some (187, true)), (some 188), .inl (.fa (.s 7) 1)⟩,
    ⟨(some (187, true)), (some 189), .inl (.ld false 1 (.s 188))⟩,
    ⟨(some (187, true)), (some 190), .inl (.ias 1 (.s 189) (.c (.int .i64 0)))⟩,
    ⟨(some (187, true)), (some 191), .inl (.ld false 1 (.s 190))⟩,
    ⟨(some (187, true)), (some 192), .inl (.mv (.s 11))⟩,
    ⟨(some (187, true)), (some 193), .inl (.ias 1 (.s 191) (.s 192))⟩,
    ⟨(some (187, true)), (some 194), .inl (.ld false 1 (.s 193))⟩,
    ⟨(some (187, true)), (some 195), .inl (.bin .neq (.s 194) (.c (.int .i64 1000000000)))⟩,
    ⟨none, (some 196), .inl (.pick (.s 187) (.s 195) (.c (.bool false)))⟩])
  (.cond (.s 196) (.seq (.seq (.region [⟨none, (some 197), .inl (.mv (.s 15))⟩])
   (.cond (.s 197) (.seq (.region [⟨none, (some 198), .inl (.fa (.s 7) 1)⟩,
      ⟨none, (some 199), .inl (.ld false 1 (.s 198))⟩,
      ⟨none, (some 200), .inl (.mv (.s 11))⟩,
      ⟨none, (some 201), .inl (.ias 1 (.s 199) (.s 200))⟩,
      ⟨none, (some 202), .inl (.ld false 1 (.s 201))⟩,
      ⟨none, (some 203), .inl (.ias 1 (.s 202) (.c (.int .i64 0)))⟩,
      ⟨none, (some 204), .inl (.ld false 1 (.s 203))⟩,
      ⟨none, (some 205), .inl (.neg (.s 204))⟩,
      ⟨none, (some 13), .inl (.mv (.s 205))⟩])
    (.region [⟨none, (some 206), .inl (.fa (.s 7) 1)⟩,
      ⟨none, (some 207), .inl (.ld false 1 (.s 206))⟩,
      ⟨none, (some 208), .inl (.ias 1 (.s 207) (.c (.int .i64 0)))⟩,
      ⟨none, (some 209), .inl (.ld false 1 (.s 208))⟩,
      ⟨none, (some 210), .inl (.mv (.s 11))⟩,
      ⟨none, (some 211), .inl (.ias 1 (.s 209) (.s 210))⟩,
      ⟨none, (some 212), .inl (.ld false 1 (.s 211))⟩,
      ⟨none, (some 14), .inl (.mv (.s 212))⟩]))
   (.skip)))
   (.seq (.region [⟨none, (some 213), .inl (.mv (.s 13))⟩,
     ⟨none, (some 214), .inl (.fa (.s 7) 1)⟩,
     ⟨none, (some 215), .inl (.ld false 1 (.s 214))⟩,
     ⟨none, (some 216), .inl (.mv (.s 11))⟩,
     ⟨none, (some 217), .inl (.ias 1 (.s 215) (.s 216))⟩,
     ⟨none, (some 218), .inl (.ld false 1 (.s 217))⟩,
     ⟨none, (some 219), .inl (.ias 1 (.s 218) (.c (.int .i64 0)))⟩,
     ⟨none, (some 220), .inl (.ld false 1 (.s 219))⟩,
     ⟨none, (some 221), .inl (.neg (.s 220))⟩,
     ⟨none, (some 222), .inl (.mm true (.s 213) (.s 221))⟩,
     ⟨none, (some 13), .inl (.mv (.s 222))⟩])
   (.region [⟨none, (some 223), .inl (.mv (.s 14))⟩,
     ⟨none, (some 224), .inl (.fa (.s 7) 1)⟩,
     ⟨none, (some 225), .inl (.ld false 1 (.s 224))⟩,
     ⟨none, (some 226), .inl (.ias 1 (.s 225) (.c (.int .i64 0)))⟩,
     ⟨none, (some 227), .inl (.ld false 1 (.s 226))⟩,
     ⟨none, (some 228), .inl (.mv (.s 11))⟩,
     ⟨none, (some 229), .inl (.ias 1 (.s 227) (.s 228))⟩,
     ⟨none, (some 230), .inl (.ld false 1 (.s 229))⟩,
     ⟨none, (some 231), .inl (.mm false (.s 223) (.s 230))⟩,
     ⟨none, (some 14), .inl (.mv (.s 231))⟩])))
  (.skip)))
  k10f
def k10d : Cd :=
  .seq (.seq (.region [⟨none, (some 79), .inl (.mv (.s 10))⟩,
    ⟨none, (some 80), .inl (.len (.s 79))⟩,
    ⟨none, (some 81), .inl (.mv (.c (.int .i64 0)))⟩])
  (.block 2 (.loop k10l0)))
  k10e
def k10c : Cd :=
  .seq (.seq (.draw [⟨⟨none, (some 51), .inl (.mv (.s 1))⟩, (some []), [], 0, false⟩,
    ⟨⟨none, (some 52), .inl (.len (.s 51))⟩, (some []), [], 1, false⟩,
    ⟨⟨none, (some 53), .inl (.bin .gtr (.s 52) (.c (.int .i64 0)))⟩, (some []), [], 3, false⟩,
    ⟨⟨none, (some 54), .inl (.mv (.s 53))⟩, (some []), [], 7, false⟩,
    ⟨⟨(some (54, true)), (some 55), .inl (.mv (.s 1))⟩, (some []), [], 15, false⟩,
    ⟨⟨(some (54, true)), (some 56), .inl (.mv (.s 11))⟩, (some []), [], 15, false⟩,
    ⟨⟨(some (54, true)), (some 57), .inl (.mv (.s 1))⟩, (some []), [], 15, false⟩,
    ⟨⟨(some (54, true)), (some 58), .inl (.len (.s 57))⟩, (some []), [], 79, false⟩,
    ⟨⟨(some (54, true)), (some 59), .inl (.bin .rem (.s 56) (.s 58))⟩, (some []), [], 239, false⟩,
    ⟨⟨(some (54, true)), (some 60), .inl (.ias 1 (.s 55) (.s 59))⟩, (some []), [], 511, false⟩,
    ⟨⟨(some (54, true)), (some 61), .inl (.ld false 1 (.s 60))⟩, (some []), [], 1023, false⟩,
    ⟨⟨(some (54, true)), (some 62), .inl (.bin .rem (.s 61) (.c (.int .u8 2)))⟩, (some []), [], 2047, false⟩,
    ⟨⟨(some (54, true)), (some 63), .inl (.bin .eql (.s 62) (.c (.int .u8 0)))⟩, (some []), [], 4095, false⟩,
    ⟨⟨none, (some 64), .inl (.pick (.s 54) (.s 63) (.c (.bool false)))⟩, (some []), [], 8191, false⟩,
    ⟨⟨none, (some 65), .inl (.mv (.s 64))⟩, (some []), [], 16383, false⟩,
    ⟨⟨(some (65, false)), (some 66), .inl (.fa (.s 7) 1)⟩, (some []), [], 32767, false⟩,
    ⟨⟨(some (65, false)), (some 67), .inl (.ld false 1 (.s 66))⟩, (some []), [], 65535, false⟩,
    ⟨⟨(some (65, false)), (some 68), .inl (.mv (.s 11))⟩, (some []), [], 32767, false⟩,
    ⟨⟨(some (65, false)), (some 69), .inl (.ias 1 (.s 67) (.s 68))⟩, (some []), [], 262143, false⟩,
    ⟨⟨(some (65, false)), (some 70), .inl (.ld false 1 (.s 69))⟩, (some []), [], 524287, false⟩,
    ⟨⟨(some (65, false)), (some 71), .inl (.len (.s 70))⟩, (some []), [], 1048575, false⟩,
    ⟨⟨(some (65, false)), (some 72), .inl (.fa (.s 7) 0)⟩, (some []), [], 32767, false⟩,
    ⟨⟨(some (65, false)), (some 73), .inl (.ld false 1 (.s 72))⟩, (some []), [], 2129919, false⟩,
    ⟨⟨(some (65, false)), (some 74), .inl (.len (.s 73))⟩, (some []), [], 6324223, false⟩,
    ⟨⟨(some (65, false)), (some 75), .inl (.bin .neq (.s 71) (.s 74))⟩, (some []), [], 16777215, false⟩,
    ⟨⟨none, (some 76), .inl (.pick (.s 65) (.c (.bool true)) (.s 75))⟩, (some []), [], 33554431, false⟩])
  (.cond (.s 76) (.exit 1)
  (.skip)))
  (.seq (.region [⟨none, (some 13), .inl (.mv (.c (.int .i64 (-1000))))⟩])
  (.seq (.region [⟨none, (some 14), .inl (.mv (.c (.int .i64 1000)))⟩])
  (.seq (.seq (.region [⟨none, (some 77), .inl (.mv (.s 12))⟩,
    ⟨none, (some 78), .inl (.bin .eql (.s 77) (.c (.int .i64 0)))⟩])
  (.cond (.s 78) (.seq (.region [⟨none, (some 13), .inl (.mv (.c (.int .i64 0)))⟩])
   (.region [⟨none, (some 14), .inl (.mv (.c (.int .i64 0)))⟩]))
  (.skip)))
  (.seq (.region [⟨none, (some 15), .inl (.mv (.c (.bool true)))⟩])
  k10d))))
def k10q : Cd :=
  .region [⟨none, (some 254), .inl (.bin .add (.s 46) (.c (.int .i64 1)))⟩,
    ⟨none, (some 46), .inl (.mv (.s 254))⟩]
theorem k10l1_eq : k10l1 = .seq (.region [⟨none, (some 47), .inl (.bin .lss (.s 46) (.s 45))⟩])
  (.seq (.cond (.s 47) (.skip)
  (.exit 0))
  (.seq (.block 1 (.seq (.region [⟨none, (some 48), .inl (.mv (.s 46))⟩,
    ⟨none, (some 49), .inl (.ias 1 (.s 44) (.s 46))⟩,
    ⟨none, (some 50), .inl (.ld false 1 (.s 49))⟩,
    ⟨none, (some 11), .inl (.mv (.s 48))⟩,
    ⟨none, (some 12), .inl (.mv (.s 50))⟩])
  k10c))
  k10q)) := rfl
/-- The number that stands at a place of a list of numbers. -/
def pkI (p : List Int) (j : Nat) : Int := if p = [] then 0 else p.getD (j % p.length) 0
theorem pk_run (p : List Int) (hp : p.length ≤ 4611686018427387904) (j : Nat) {n : Nat} (hn : 1 ≤ n) : pureCall (rc pg n) 37 [intsD p, D.int j] = some (.ret (D.int (pkI p j))) := by
  obtain ⟨m, rfl, e⟩ := body (pg := pg) (f := 37) (args := [intsD p, D.int j]) (show 0 < n by omega) rfl rfl
  rw [e]
  by_cases h0 : p = []
  · subst h0
    simp [k37, Env.v_ini, intsD, pkI]
  · have hpl : 0 < p.length := List.length_pos_iff.2 h0
    have hl0 : ((p.length : Int) == 0) = false := by simp; omega
    have hq : j % p.length < p.length := Nat.mod_lt _ hpl
    obtain ⟨q, hqd⟩ : ∃ q, q = j % p.length := ⟨_, rfl⟩
    rw [← hqd] at hq
    obtain ⟨v, hv⟩ : ∃ v, p[q] = v := ⟨_, rfl⟩
    have e0 : pkI p j = v := by
      unfold pkI
      rw [if_neg h0, ← hqd, List.getD_eq_getElem?_getD, List.getElem?_eq_getElem hq, hv]; rfl
    have b1 := bin_rem (k := .i64) (a := (j : Int)) (b := (p.length : Int)) (by omega)
    have e1 : (j : Int).tmod (p.length : Int) = (q : Int) := by rw [Int.tmod_eq_emod_of_nonneg (by omega), hqd]; omega
    rw [e1] at b1
    simp [-beq_eq_false_iff_ne, k37, Env.v_ini, intsD, hl0, e0, b1, hq, hv, D.cells]
/-- The marks that the law has kept, and their years. -/
structure Xt (l : List Clm) (j : Nat) (a : List Nat) (y : Nat → Int) : Prop where
  asc : a.Pairwise (· < ·)
  lt : ∀ q, q ∈ a → q < j
  ok : FOk (marksF l).length (cloF l) (dtO (hasZ (marksF l)) a) y
  zero : hasZ (marksF l) = true → y 0 = 0
  len : a.length ≤ j
def OX (l : List Clm) (kp p : List Int) (b7 : Nat) (k : Nat) (s : St) : Prop := ∃ (x : Env 284) (h : Heap) (j : Nat) (a : List Nat) (y : Nat → Int), s = ⟨x.l, h, []⟩ ∧ j + k = (marksF l).length ∧ x.v 0 = clsD l ∧ x.v 1 = .sl false (kp.map fun c => D.val (.int .u8 c)) ∧ x.v 2 = intsD p ∧ x.v 7 = .ptr b7 0 ∧ x.v 44 = intsD (marksF l) ∧ x.v 45 = D.int (marksF l).length ∧ x.v 46 = D.int j ∧ Xt l j a y ∧ GX 58 2 a.length ((fxF (marksF l) y a).flatMap dtC) h (x.v 9) ∧ GX 3 1 a.length (a.map fun q : Nat => D.int (q : Int)) h (x.v 10) ∧ h.get b7 = some (.cells 42 [intsD (marksF l), rowsD (marksF l).length (encM (cloF l))]) ∧ b7 < h.next ∧ h.Fr
set_option maxHeartbeats 8000000 in
theorem ext_f (l : List Clm) (hl : (marksF l).length ≤ 64) (kp p : List Int) (hp : p.length ≤ 4000000000000000000) (b7 : Nat) {n k j : Nat} (hn : 1 ≤ n) (hj : j < (marksF l).length) (hjk : j + k = (marksF l).length) (a : List Nat) (y : Nat → Int) (hal : a.length ≤ j) (halt : ∀ q, q ∈ a → q < j) (x : Env 284) (h : Heap) (m lo hi : Int) (hm : (marksF l)[j] = m)
    (hle : lo ≤ hi) (hlo : -400000000 ≤ lo) (hhi : hi ≤ 400000000) (hX : ∀ v, lo ≤ v → v ≤ hi → Xt l (j + 1) (a ++ [j]) (fun q => if q = j then v else y q))
    (v0 : x.v 0 = clsD l) (v1 : x.v 1 = .sl false (kp.map fun c => D.val (.int .u8 c))) (v2 : x.v 2 = intsD p) (v7 : x.v 7 = .ptr b7 0) (v11 : x.v 11 = D.int j) (v12 : x.v 12 = D.int m) (v13 : x.v 13 = D.int lo) (v14 : x.v 14 = D.int hi) (v44 : x.v 44 = intsD (marksF l)) (v45 : x.v 45 = D.int (marksF l).length) (v46 : x.v 46 = D.int j)
    (g9 : GX 58 2 a.length ((fxF (marksF l) y a).flatMap dtC) h (x.v 9)) (g10 : GX 3 1 a.length (a.map fun q : Nat => D.int (q : Int)) h (x.v 10)) (hg7 : h.get b7 = some (.cells 42 [intsD (marksF l), rowsD (marksF l).length (encM (cloF l))])) (hb7 : b7 < h.next) (hf : h.Fr) :
    Res (andThen (blockK 1 (k10f.ev ⟨pg, 284, none⟩ (rc pg n) ⟨x.l, h, []⟩)) (k10q.ev ⟨pg, 284, none⟩ (rc pg n))) (Rnd (OX l kp p b7) (fun x s => x = .exit 0 ∧ OX l kp p b7 0 s) k) := by
  have c37 := fun h => call_of (h := h) (pg := pg) (f := 37) rfl (by simp [intsD, ints_canonL]) (pk_run p (by omega) j (n := n) hn)
  have c28 := fun h => call_of (h := h) (pg := pg) (f := 28) (args := [D.int (pkI p j), D.int (hi - lo + 1)]) rfl (by simp) (mod_run (pkI p j) (hi - lo + 1) (by omega) (by omega) (m := n) hn)
  obtain ⟨r, hr⟩ : ∃ r, pkI p j % (hi - lo + 1) = r := ⟨_, rfl⟩
  have r1 : 0 ≤ r := by rw [← hr]; exact Int.emod_nonneg _ (by omega)
  have r2 : r < hi - lo + 1 := by rw [← hr]; exact Int.emod_lt_of_pos _ (by omega)
  rw [hr] at c28
  have x1 : IntKind.i64.wrap (hi - lo) = hi - lo := wrap_i64 (by omega) (by omega)
  have x2 : IntKind.i64.wrap (hi - lo + 1) = hi - lo + 1 := wrap_i64 (by omega) (by omega)
  have x3 : IntKind.i64.wrap (lo + r) = lo + r := wrap_i64 (by omega) (by omega)
  have x4 : IntKind.i64.wrap ((j : Int) + 1) = (j : Int) + 1 := wrap_i64 (by omega) (by omega)
  have hng : ¬ hi < lo := by omega
  have hXv := hX (lo + r) (by omega) (by omega)
  have hfr : ∀ j, h.raw (h.next + j) = none := fun j => hf _ (by omega)
  have hMj : (marksF l).getD j 0 = m := by rw [List.getD_eq_getElem?_getD, List.getElem?_eq_getElem hj, hm]; rfl
  have hfx : (fxF (marksF l) (fun q => if q = j then lo + r else y q) (a ++ [j])).flatMap dtC = (fxF (marksF l) y a).flatMap dtC ++ [D.int m, D.int (lo + r)] := by
    unfold fxF
    rw [List.map_append, List.flatMap_append]
    congr 1
    · rw [show a.map (fun q => (⟨(marksF l).getD q 0, if q = j then lo + r else y q⟩ : Dt)) = a.map (fun q => ⟨(marksF l).getD q 0, y q⟩) from List.map_congr_left fun q hq => by rw [if_neg (by have := halt q hq; omega)]]
    · simp [dtC, ← hMj]
  have hax : (a ++ [j]).map (fun q : Nat => D.int (q : Int)) = (a.map fun q : Nat => D.int (q : Int)) ++ [D.int j] := by simp
  have nb7 : ∀ j, (b7 = h.next + j) = False := fun j => by simp; omega
  simp only [intsD] at c37 v2
  by_cases ha0 : a = []
  · subst ha0
    rcases g9 with ⟨_, g9⟩ | ⟨e, _⟩
    · rcases g10 with ⟨_, g10⟩ | ⟨e, _⟩
      · simp [-beq_iff_eq, k10f, k10q, v0, v1, v2, v7, v11, v12, v13, v14, v44, v45, v46, g9, g10, c37, c28, x1, x2, x3, x4, hng, hfr, D.cells, D.one, Nat.add_assoc, zerosD, apK_some, List.range_succ, room, maxLen]
        refine ⟨k - 1, by omega, _, _, j + 1, [] ++ [j], _, rfl, by omega, by simp [v0], by simp [v1], by simp [v2, intsD], by simp [v7], by simp [v44], by simp [v45], by simp, hXv, .inr ⟨by simp, h.next + 533, by simp, ?_, by simp <;> omega⟩, .inr ⟨by simp, h.next + 821, by simp, ?_, by simp <;> omega⟩, by simp [nb7, hg7], by simp; omega, ?_⟩
        · rw [hfx]; simp [fxF]
        · rw [hax]; simp
        · repeat' first | exact hf | apply Heap.Fr.bump | apply Heap.Fr.set
          all_goals first | omega | (simp <;> omega)
      · exact absurd e (Nat.lt_irrefl _)
    · exact absurd e (Nat.lt_irrefl _)
  · have hal0 : a.length ≠ 0 := fun e => ha0 (List.eq_nil_of_length_eq_zero e)
    rcases g9 with ⟨e, _⟩ | ⟨_, k9, g9, g9', n9⟩
    · exact absurd e hal0
    rcases g10 with ⟨e, _⟩ | ⟨_, k10, g10, g10', n10⟩
    · exact absurd e hal0
    have nk : (k10 = k9) = False := by
      simp; intro e; rw [e, g9'] at g10'; cases g10'
    have nb9 : (b7 = k9) = False := by
      simp; intro e; rw [e, g9'] at hg7; cases hg7
    have nb10 : (b7 = k10) = False := by
      simp; intro e; rw [e, g10'] at hg7; cases hg7
    have ne9 : ∀ j, (k9 = h.next + j) = False := fun j => by simp; omega
    have ne10 : ∀ j, (k10 = h.next + j) = False := fun j => by simp; omega
    have ne9' : ∀ j, (h.next + j = k9) = False := fun j => by simp; omega
    have ne10' : ∀ j, (h.next + j = k10) = False := fun j => by simp; omega
    have happ9 := fun t hh news => appS_none (t := t) (et := 58) (sz := 2) (bytes := 16) (h := hh) (m := 1) (news := news) (k := k9) (n := a.length) (cs := (fxF (marksF l) y a).flatMap dtC) (fx_cells _ _ _) (by omega) (by unfold room; omega) (by unfold maxLen; omega)
    have happ10 := fun t hh news => appS_none (t := t) (et := 3) (sz := 1) (bytes := 8) (h := hh) (m := 1) (news := news) (k := k10) (n := a.length) (cs := a.map fun q : Nat => D.int (q : Int)) (by simp) (by omega) (by unfold room; omega) (by unfold maxLen; omega)
    simp [-beq_iff_eq, k10f, k10q, v0, v1, v2, v7, v11, v12, v13, v14, v44, v45, v46, g9, g10, c37, c28, x1, x2, x3, x4, hng, hfr, D.cells, D.one, Nat.add_assoc, zerosD, apK_some, List.range_succ, g9', g10', ne9, ne10, ne9', ne10', happ9, happ10, nk]
    refine ⟨k - 1, by omega, _, _, j + 1, a ++ [j], _, rfl, by omega, by simp [v0], by simp [v1], by simp [v2, intsD], by simp [v7], by simp [v44], by simp [v45], by simp, hXv, .inr ⟨by simp, h.next + 533, by simp, ?_, by simp <;> omega⟩, .inr ⟨by simp, h.next + 821, by simp, ?_, by simp <;> omega⟩, by simp [nb7, nb9, nb10, hg7], by simp; omega, ?_⟩
    · rw [hfx]; simp [fxF, ne9', ne10']
    · rw [hax]; simp [ne9', ne10']
    · repeat' first | exact hf | apply Heap.Fr.bump | apply Heap.Fr.set
      all_goals first | omega | (simp <;> omega)
end Go.Proofs.YtjgafgkkpofgbaaDoor
