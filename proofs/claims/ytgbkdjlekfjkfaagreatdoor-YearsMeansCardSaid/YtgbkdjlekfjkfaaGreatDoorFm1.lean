/- Series: whether one is valid; sums; the mean: by the program and by the document. -/
import Derived.Test.YtgbkdjlekfjkfaaGreatDoorFc2
namespace Go.Proofs.YtgbkdjlekfjkfaaGreatDoor
open Go Go.Em
set_option maxRecDepth 100000
theorem tail_g {β : Type} {F : β → D} {o : Option (Ex × St)} {id : Nat} {k : St → Option (Ex × St)} {R : Rc} {rs : List (ResultVar × Bool × Nat)} {P : Ex → St → Prop} {C : β → Heap → Prop} (h : Res o P)
    (hk : ∀ x s, P x s → ∃ d h', endH R rs (andThen (blockK id (some (x, s))) k) = some (.ret (F d), h') ∧ C d h') : ∃ d h', endH R rs (andThen (blockK id o) k) = some (.ret (F d), h') ∧ C d h' := by
  obtain ⟨x, s, rfl, p⟩ := h; exact hk x s p
theorem call_sh {pg : Pg} {R : Rc} {f : FuncId} {args : List D} {h h' : Heap} {o : Out} (hs : pg.sh f = true) (x : R.fn f args h = some (o, h')) : call pg R f args h = some (o, h') := by
  simp [call, hs, x]
def intsD (l : List Int) : D := .sl false (l.map D.int)
theorem ints_canonL (l : List Int) : D.canonL (l.map D.int) = true := canonL_map D.int (fun _ => rfl) l
theorem ints_can (l : List Int) : D.canonL [intsD l] = true := by simp [intsD, ints_canonL]
def outR (t : Int) : Bool := !inR t 0 200000
theorem out_run (t : Int) {n : Nat} (hn : 3 ≤ n) : pureCall (rc pg n) 137 [D.int t] = some (.ret (D.bool (outR t))) := by
  obtain ⟨m, rfl, e⟩ := body (pg := pg) (f := 137) (args := [D.int t]) (show 0 < n by omega) rfl rfl
  rw [e]
  have hw := @within_run m (by omega)
  unfold outR
  simp [k137, Env.v_ini, hw]
def IfI (l : List Int) (k : Nat) (s : St) : Prop := ∃ (x : Env 19) (h : Heap) (i : Nat), s = ⟨x.l, h, []⟩ ∧ i + k = l.length ∧ x.v 0 = intsD l ∧ x.v 1 = .fn (.func 137) [] [] ∧ x.v 7 = D.int l.length ∧ x.v 8 = D.int i ∧ l.any outR = (l.drop i).any outR ∧ h.Fr
def IfQ (l : List Int) (x : Ex) (s : St) : Prop := (x = .exit 0 ∧ l.any outR = false ∧ ∃ (x : Env 19) (h : Heap), s = ⟨x.l, h, []⟩ ∧ h.Fr) ∨ (x = .ret ∧ l.any outR = true ∧ ∃ (x : Env 19) (h : Heap) (j : Nat), s = ⟨x.l, h, []⟩ ∧ x.v 4 = D.int j ∧ h.Fr)
theorem if_round (l : List Int) (hl : l.length ≤ 400) : ∀ n, 4 ≤ n → ∀ k s, IfI l k s → Res (k117l0.ev ⟨pg, 19, none⟩ (rc pg n) s) (Rnd (IfI l) (IfQ l) k) := by
  rintro n hn k s ⟨x, h, i, rfl, hik, v0, v1, v7, v8, ha, hf⟩
  simp only [intsD] at v0
  by_cases hi : i < l.length
  · obtain ⟨v, hv⟩ : ∃ v, l[i] = v := ⟨_, rfl⟩
    have hd : l.drop i = v :: l.drop (i + 1) := by rw [List.drop_eq_getElem_cons hi, hv]
    rw [hd, List.any_cons] at ha
    have w1 : IntKind.i64.wrap ((i : Int) + 1) = (i : Int) + 1 := wrap_i64 (by omega) (by omega)
    have c := fun h => call_of (h := h) (pg := pg) (f := 137) rfl rfl (out_run v (n := n) (by omega))
    cases hb : outR v with
    | true =>
      rw [hb] at c ha
      simp [k117l0, v0, v1, v7, v8, hi, hv, D.cells, c]
      exact .inr ⟨rfl, by rw [ha]; rfl, _, _, i, rfl, by simp, by repeat' first | exact hf | apply Heap.Fr.bump⟩
    | false =>
      rw [hb, Bool.false_or] at ha
      rw [hb] at c
      simp [k117l0, v0, v1, v7, v8, hi, hv, D.cells, c, w1]
      exact ⟨k - 1, by omega, _, _, i + 1, rfl, by omega, by simp [v0, intsD], by simp [v1], by simp [v7], by simp, ha, by repeat' first | exact hf | apply Heap.Fr.bump⟩
  · have hiF : i = l.length := by omega
    rw [hiF, List.drop_length] at ha
    simp [k117l0, v7, v8, hi]
    exact .inl ⟨rfl, ha, _, _, rfl, hf.bump _⟩
theorem if_sh (l : List Int) (hl : l.length ≤ 400) {h : Heap} (hf : h.Fr) {n : Nat} (hn : l.length + 10 ≤ n) : ∃ (z : Int) (h' : Heap), (rc pg n).fn 117 [intsD l, .fn (.func 137) [] []] h = some (.ret (D.int z), h') ∧ (h'.Fr ∧ decide (z ≥ 0) = l.any outR) := by
  obtain ⟨m, rfl, e⟩ := fn_body (pg := pg) (f := 117) (args := [intsD l, .fn (.func 137) [] []]) (h := h) (show 0 < n by omega) rfl rfl
  rw [e]
  simp [-ge_iff_le, -Int.not_lt, k117, Env.v_ini, intsD, ev_loop]
  refine tail_g (F := fun z : Int => D.int z) (C := fun (z : Int) (h' : Heap) => h'.Fr ∧ decide (z ≥ 0) = l.any outR) (lp_rule 4 (IfI l) _ (if_round l hl) l.length m _ (by omega) ⟨_, _, 0, rfl, by omega, by simp [Env.v_ini, intsD], by simp [Env.v_ini], by simp, by simp, rfl, by repeat' first | exact hf | apply Heap.Fr.bump⟩) ?_
  rintro x s (⟨rfl, ha, x, h1, rfl, f1⟩ | ⟨rfl, ha, x, h1, j, rfl, v4, f1⟩)
  · rw [ha]
    simp
    exact ⟨-1, _, ⟨rfl, rfl⟩, f1.bump _, by simp⟩
  · rw [ha]
    simp [v4]
    exact ⟨j, _, ⟨rfl, rfl⟩, f1, by omega⟩
theorem contains_sh (l : List Int) (hl : l.length ≤ 400) {h : Heap} (hf : h.Fr) {n : Nat} (hn : l.length + 20 ≤ n) : ∃ h' : Heap, (rc pg n).fn 71 [intsD l, .fn (.func 137) [] []] h = some (.ret (D.bool (l.any outR)), h') := by
  obtain ⟨m, rfl, e⟩ := fn_body (pg := pg) (f := 71) (args := [intsD l, .fn (.func 137) [] []]) (h := h) (show 0 < n by omega) rfl rfl
  rw [e]
  obtain ⟨H, hH⟩ : ∃ H, H = (h.bump 9).bump 9 := ⟨_, rfl⟩
  obtain ⟨z, h2, r2, _, hz⟩ := if_sh l hl (h := H) (by rw [hH]; exact (hf.bump _).bump _) (n := m) (by omega)
  have c2 := call_sh (pg := pg) (f := 117) rfl r2
  rw [← hz]
  simp only [intsD] at c2
  simp [k71, Env.v_ini, intsD, ← hH, c2]
def serF (l : List Int) : Bool := inR l.length 1 400 && !l.any outR
theorem series_run (l : List Int) {n : Nat} (hn : 500 ≤ n) : pureCall (rc pg n) 93 [intsD l] = some (.ret (D.bool (serF l))) := by
  obtain ⟨m, rfl, e⟩ := body (pg := pg) (f := 93) (args := [intsD l]) (show 0 < n by omega) rfl rfl
  rw [e]
  have hw := @within_run m (by omega)
  unfold serF
  cases h1 : inR l.length 1 400 with
  | false => simp [k93, Env.v_ini, intsD, hw, h1]
  | true =>
    have hl : l.length ≤ 400 := by unfold inR at h1; simp at h1; omega
    obtain ⟨H, hH⟩ : ∃ H, H = (Heap.empty.bump 11).bump 11 := ⟨_, rfl⟩
    obtain ⟨h2, r2⟩ := contains_sh l hl (h := H) (by rw [hH]; repeat' first | exact Heap.Fr.empty | apply Heap.Fr.bump) (n := m) (by omega)
    have c2 := call_sh (pg := pg) (f := 71) rfl r2
    simp only [intsD] at c2
    simp [-List.any_eq_true, -List.any_eq_false, k93, Env.v_ini, intsD, hw, h1, ← hH, c2]
def RsI (l : List Int) (k : Nat) (s : St) : Prop := ∃ (x : Env 19) (h : Heap) (i : Nat), s = ⟨x.l, h, []⟩ ∧ i + k = l.length ∧ x.v 0 = intsD l ∧ x.v 3 = D.int i ∧ l.any outR = (l.drop i).any outR
def RsQ (l : List Int) (x : Ex) (s : St) : Prop := (x = .exit 0 ∧ l.any outR = false ∧ ∃ (x : Env 19) (h : Heap), s = ⟨x.l, h, []⟩ ∧ x.v 0 = intsD l) ∨ (x = .ret ∧ l.any outR = true ∧ ∃ (x : Env 19) (h : Heap), s = ⟨x.l, h, []⟩ ∧ x.v 2 = D.bool false)
theorem rs_round (l : List Int) (hl : l.length ≤ 20000000000000) : ∀ n, 4 ≤ n → ∀ k s, RsI l k s → Res (k94l0.ev ⟨pg, 19, none⟩ (rc pg n) s) (Rnd (RsI l) (RsQ l) k) := by
  rintro n hn k s ⟨x, h, i, rfl, hik, v0, v3, ha⟩
  have hw := @rwithin_run n (by omega)
  simp only [intsD] at v0
  by_cases hi : i < l.length
  · obtain ⟨v, hv⟩ : ∃ v, l[i] = v := ⟨_, rfl⟩
    have hd : l.drop i = v :: l.drop (i + 1) := by rw [List.drop_eq_getElem_cons hi, hv]
    rw [hd, List.any_cons] at ha
    have w1 : IntKind.i64.wrap ((i : Int) + 1) = (i : Int) + 1 := wrap_i64 (by omega) (by omega)
    cases hb : inR v 0 200000 with
    | false =>
      have ho : outR v = true := by unfold outR; rw [hb]; rfl
      rw [ho] at ha
      simp [k94l0, v0, v3, hi, hv, D.cells, hw, hb]
      exact .inr ⟨rfl, by rw [ha]; rfl, _, _, rfl, by simp⟩
    | true =>
      have ho : outR v = false := by unfold outR; rw [hb]; rfl
      rw [ho, Bool.false_or] at ha
      simp [k94l0, v0, v3, hi, hv, D.cells, hw, hb, w1]
      exact ⟨k - 1, by omega, _, _, i + 1, rfl, by omega, by simp [v0, intsD], by simp, ha⟩
  · have hiF : i = l.length := by omega
    rw [hiF, List.drop_length] at ha
    simp [k94l0, v0, v3, hi]
    exact .inl ⟨rfl, ha, _, _, rfl, by simp [v0, intsD]⟩
theorem rseries_run (l : List Int) (hl : l.length ≤ 20000000000000) {n : Nat} (hn : l.length + 20 ≤ n) : pureCall (rc pg n) 94 [intsD l] = some (.ret (D.bool (serF l))) := by
  obtain ⟨m, rfl, e⟩ := body (pg := pg) (f := 94) (args := [intsD l]) (show 0 < n by omega) rfl rfl
  rw [e]
  have hw := @rwithin_run m (by omega)
  unfold serF
  simp [-List.any_eq_true, -List.any_eq_false, k94, ev_loop]
  refine Res.endsAfter (lp_rule 4 (RsI l) _ (rs_round l hl) l.length m _ (by omega) ⟨_, _, 0, rfl, by omega, by simp [Env.v_ini], by simp, rfl⟩) ?_
  rintro x s (⟨rfl, ha, x, h, rfl, v0⟩ | ⟨rfl, ha, x, h, rfl, v2⟩)
  · rw [ha]
    simp only [intsD] at v0
    simp [v0, hw]
  · rw [ha]
    simp [v2]
end Go.Proofs.YtgbkdjlekfjkfaaGreatDoor
