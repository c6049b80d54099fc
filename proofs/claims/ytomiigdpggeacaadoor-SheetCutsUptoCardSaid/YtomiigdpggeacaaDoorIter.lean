/- The rows of a sheet, each with the mark above it: the loop over them, whatever its body. -/
import Derived.Test.YtomiigdpggeacaaDoorPlaces
namespace Go.Proofs.YtomiigdpggeacaaDoor
open Go Go.Em
set_option maxRecDepth 100000
/-- The mark above the next row. -/
def nextA (core a : Int) (r : Rw) : Int := if r.k = 1 then markF core r.n else a
/-- What a body of the loop keeps: J with rows to come, Z where it leaves. -/
structure IterH (K n0 : Nat) (core : Int) (need : Nat) (J : List Rw → Int → Heap → Prop) (Z : Heap → Prop) : Prop where
  grow : ∀ l a h h', J l a h → n0 ≤ h.next → h.Gr h' → J l a h'
  step : ∀ n, need ≤ n → ∀ r l a h, J (r :: l) a h → h.Fr → n0 ≤ h.next → ∃ b h', (rc pg n).yl K [D.int a, rowD r] h = some (.ret (D.bool b), h') ∧ h.next ≤ h'.next ∧ h'.Fr ∧
    (∀ p cs, n0 ≤ p → h.get p = some (.cells 71 cs) → h'.get p = some (.cells 71 cs)) ∧ (if b = true then J l (nextA core a r) h' else Z h')
def sheetC (i r c : Int) (l : List Rw) : List D := [D.int i, D.int r, D.int c, rowsD l]
def BI (sc : List D) (l : List Rw) (K n0 : Nat) (J : List Rw → Int → Heap → Prop) (k : Nat) (s : St) : Prop := ∃ (x : Env 27) (h : Heap) (i : Nat) (a : Int), s = ⟨x.l, h, []⟩ ∧ i + k = l.length ∧ x.v 0 = .yld K ∧ x.v 1 = .eref sc ∧
  x.v 7 = rowsD l ∧ x.v 8 = D.int l.length ∧ x.v 9 = D.int i ∧ x.v 3 = D.int a ∧ J (l.drop i) a h ∧ h.Fr ∧ n0 ≤ h.next
def BQ (J : List Rw → Int → Heap → Prop) (Z : Heap → Prop) (x : Ex) (s : St) : Prop :=
  (x = .exit 0 ∧ ∃ e h a, s = ⟨e, h, []⟩ ∧ J [] a h) ∨ (x = .ret ∧ ∃ e h, s = ⟨e, h, []⟩ ∧ Z h)
set_option maxHeartbeats 1000000 in
theorem iter_round {K n0 need : Nat} {core : Int} {J : List Rw → Int → Heap → Prop} {Z : Heap → Prop} (hI : IterH K n0 core need J Z) (i0 r0 : Int) (l : List Rw) (hl : l.length ≤ 400) :
    ∀ n, max need 5 ≤ n → ∀ k s, BI (sheetC i0 r0 core l) l K n0 J k s → Res (k88l0.ev ⟨pg, 27, none⟩ (rc pg n) s) (Rnd (BI (sheetC i0 r0 core l) l K n0 J) (BQ J Z) k) := by
  rintro n hn k s ⟨x, h, i, a, rfl, hik, v0, v1, v7, v8, v9, v3, hJ, hf, hn0⟩
  have hfr : ∀ j, h.raw (h.next + j) = none := fun j => hf _ (by omega)
  by_cases hlt : i < l.length
  · obtain ⟨r, hr⟩ : ∃ r, l[i] = r := ⟨l[i], rfl⟩
    have hd : l.drop i = r :: l.drop (i + 1) := by rw [List.drop_eq_getElem_cons hlt, hr]
    rw [hd] at hJ
    simp only [rowsD] at v7
    simp only [sheetC, rowsD] at v1
    have hw1 : IntKind.i64.wrap ((i : Int) + 1) = (i : Int) + 1 := wrap_i64 (by omega) (by omega)
    obtain ⟨H, hH⟩ : ∃ H, H = ((((h.bump 27).bump 27).set (h.next + 32) (some (Blk.cells 71 [D.val (Value.int IntKind.i64 0), D.val (Value.int IntKind.i64 0), D.val (Value.int IntKind.i64 0)]))).set
        (h.next + 32) (some (Blk.cells 71 [D.int r.k, D.int r.n, D.int r.m]))).bump 27 := ⟨_, rfl⟩
    have hG : h.Gr H := by
      rw [hH]
      refine Heap.Gr.bump (Heap.Gr.set (Heap.Gr.set (((Heap.Gr.refl h).bump 27).bump 27) _ (by omega) ?_) _ (by omega) ?_) 27 <;> simp <;> omega
    have hHn : H.next = h.next + 81 := by rw [hH]; simp [Nat.add_assoc]
    have hHg : H.get (h.next + 32) = some (Blk.cells 71 [D.int r.k, D.int r.n, D.int r.m]) := by rw [hH]; simp
    obtain ⟨b, h', e, hn', hf', hk', hz⟩ := hI.step n (by omega) r _ a H (hI.grow _ _ _ _ hJ hn0 hG) (hG.fr hf) (by omega)
    have hg' : h'.get (h.next + 32) = some (Blk.cells 71 [D.int r.k, D.int r.n, D.int r.m]) := by
      exact hk' _ _ (by omega) hHg
    have hm := @mark_run n (by omega)
    simp only [rowD] at e
    cases b with
    | false =>
      simp [k88l0, v0, v7, v8, v9, v3, hlt, hr, rowD, D.cells, D.one, hfr, Nat.add_assoc, ← hH, hHg, e]
      exact .inr ⟨rfl, _, _, rfl, by simpa using hz⟩
    | true =>
      simp only [if_true] at hz
      have hfr' : ∀ j, h'.raw (h'.next + j) = none := fun j => hf' _ (by omega)
      by_cases hk1 : r.k = 1
      · have hk1' : (r.k == 1) = true := by simp [hk1]
        simp [k88l0, v0, v1, v7, v8, v9, v3, hlt, hr, rowD, D.cells, D.one, hfr, Nat.add_assoc, ← hH, hHg, e, hg', hm, hk1', hw1]
        refine ⟨k - 1, by omega, _, _, i + 1, nextA core a r, rfl, by omega, by simp [v0], by simp [v1, sheetC, rowsD], by simp [v7, rowsD], by simp [v8], by simp, by simp [nextA, hk1], hI.grow _ _ _ _ hz (by omega) ((((Heap.Gr.refl h').bump 27).bump 27).bump 27), ((hf'.bump 27).bump 27).bump 27, by simp; omega⟩
      · have hk1' : (r.k == 1) = false := by simp [hk1]
        simp [k88l0, v0, v7, v8, v9, v3, hlt, hr, rowD, D.cells, D.one, hfr, Nat.add_assoc, ← hH, hHg, e, hg', hk1', hw1]
        refine ⟨k - 1, by omega, _, _, i + 1, nextA core a r, rfl, by omega, by simp [v0], by simp [v1, sheetC, rowsD], by simp [v7, rowsD], by simp [v8], by simp, by simp [nextA, hk1, v3], hI.grow _ _ _ _ hz (by omega) (((Heap.Gr.refl h').bump 27).bump 27), (hf'.bump 27).bump 27, by simp; omega⟩
  · simp [k88l0, v8, v9, hlt]
    have hi : i = l.length := by omega
    refine .inl ⟨rfl, _, _, a, rfl, ?_⟩
    rw [hi, List.drop_length] at hJ
    exact hI.grow _ _ _ _ hJ hn0 ((Heap.Gr.refl h).bump _)
theorem endsIn {o : Option (Ex × St)} {id : Nat} {R : Rc} {rs : List (ResultVar × Bool × Nat)} {P : Ex → St → Prop} {C : Heap → Prop} (h : Res o P) (hk : ∀ x s, P x s → ∃ d h', endH R rs (blockK id (some (x, s))) = some (.ret d, h') ∧ C h') :
    ∃ d h', endH R rs (blockK id o) = some (.ret d, h') ∧ C h' := by
  obtain ⟨x, s, rfl, p⟩ := h; exact hk x s p
/-- The loop over a sheet's rows, in whatever heap. -/
theorem iter_run {K n0 need : Nat} {core : Int} {J : List Rw → Int → Heap → Prop} {Z : Heap → Prop} (hI : IterH K n0 core need J Z) (i0 r0 : Int) (l : List Rw) (hl : l.length ≤ 400) {h : Heap} (hJ : J l (-1) h) (hf : h.Fr) (hn0 : n0 ≤ h.next)
    {n : Nat} (hn : max need 5 + l.length + 2 ≤ n) : ∃ d h', (rc pg n).fn 88 [.yld K, .eref (sheetC i0 r0 core l)] h = some (.ret d, h') ∧ ((∃ a, J [] a h') ∨ Z h') := by
  obtain ⟨m, rfl, e⟩ := fn_body (pg := pg) (f := 88) (args := [.yld K, .eref (sheetC i0 r0 core l)]) (h := h) (show 0 < n by omega) rfl rfl
  rw [e]
  have hloop : ∀ s, BI (sheetC i0 r0 core l) l K n0 J l.length s → _ := fun s => lp_rule (max need 5) (BI (sheetC i0 r0 core l) l K n0 J) (BQ J Z) (iter_round hI i0 r0 l hl) l.length m s (by omega)
  simp [k88, Env.v_ini, sheetC, rowsD, ev_loop]
  refine endsIn (C := fun h' => (∃ a, J [] a h') ∨ Z h') (hloop _ ⟨_, _, 0, -1, rfl, by omega, by simp [Env.v_ini], by simp [Env.v_ini, sheetC, rowsD], by simp [rowsD], by simp, by simp, by simp, hI.grow _ _ _ _ hJ hn0 (((Heap.Gr.refl h).bump 27).bump 27), (hf.bump 27).bump 27, by simp; omega⟩) ?_
  rintro x s (⟨rfl, e', h', a, rfl, hJ'⟩ | ⟨rfl, e', h', rfl, hZ⟩)
  · simp
    exact ⟨_, _, ⟨rfl, rfl⟩, .inl ⟨a, hJ'⟩⟩
  · simp
    exact ⟨_, _, ⟨rfl, rfl⟩, .inr hZ⟩
end Go.Proofs.YtomiigdpggeacaaDoor
