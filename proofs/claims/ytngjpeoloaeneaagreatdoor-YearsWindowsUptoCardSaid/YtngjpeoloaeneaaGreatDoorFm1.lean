/- Series: whether one is valid; sums; the mean: by the program and by the document. -/
import Derived.Test.YtngjpeoloaeneaaGreatDoorFc2
namespace Go.Proofs.YtngjpeoloaeneaaGreatDoor
open Go Go.Em
set_option maxRecDepth 100000
theorem tail_g {β : Type} {F : β → D} {o : Option (Ex × St)} {id : Nat} {k : St → Option (Ex × St)} {R : Rc} {rs : List (ResultVar × Bool × Nat)} {P : Ex → St → Prop} {C : β → Heap → Prop} (h : Res o P)
    (hk : ∀ x s, P x s → ∃ d h', endH R rs (andThen (blockK id (some (x, s))) k) = some (.ret (F d), h') ∧ C d h') : ∃ d h', endH R rs (andThen (blockK id o) k) = some (.ret (F d), h') ∧ C d h' := by
  obtain ⟨x, s, rfl, p⟩ := h; exact hk x s p
theorem call_sh {pg : Pg} {R : Rc} {f : FuncId} {args : List D} {h h' : Heap} {o : Out} (hs : pg.sh f = true) (x : R.fn f args h = some (o, h')) : call pg R f args h = some (o, h') := by
  simp [call, hs, x]
def intsD (l : List Int) : D := .sl false (l.map D.int)
theorem ints_canonL (l : List Int) : D.canonL (l.map D.int) = true := canonL_map D.int (fun _ => rfl) l
theorem ints_can (l : List Int) : D.canonL [intsD l] = true := by simp [intsD, ints_canonL]
def outR (t : Int) : Bool := !inR t 0 200000
theorem out_run (t : Int) {n : Nat} (hn : 3 ≤ n) : pureCall (rc pg n) 78 [D.int t] = some (.ret (D.bool (outR t))) := by
  obtain ⟨m, rfl, e⟩ := body (pg := pg) (f := 78) (args := [D.int t]) (show 0 < n by omega) rfl rfl
  rw [e]
  have hw := @within_run m (by omega)
  unfold outR
  simp [k78, Env.v_ini, hw]
def IfI (l : List Int) (k : Nat) (s : St) : Prop := ∃ (x : Env 19) (h : Heap) (i : Nat), s = ⟨x.l, h, []⟩ ∧ i + k = l.length ∧ x.v 0 = intsD l ∧ x.v 1 = .fn (.func 78) [] [] ∧ x.v 7 = D.int l.length ∧ x.v 8 = D.int i ∧ l.any outR = (l.drop i).any outR ∧ h.Fr
def IfQ (l : List Int) (x : Ex) (s : St) : Prop := (x = .exit 0 ∧ l.any outR = false ∧ ∃ (x : Env 19) (h : Heap), s = ⟨x.l, h, []⟩ ∧ h.Fr) ∨ (x = .ret ∧ l.any outR = true ∧ ∃ (x : Env 19) (h : Heap) (j : Nat), s = ⟨x.l, h, []⟩ ∧ x.v 4 = D.int j ∧ h.Fr)
theorem if_round (l : List Int) (hl : l.length ≤ 400) : ∀ n, 4 ≤ n → ∀ k s, IfI l k s → Res (k97l0.ev ⟨pg, 19, none⟩ (rc pg n) s) (Rnd (IfI l) (IfQ l) k) := by
  rintro n hn k s ⟨x, h, i, rfl, hik, v0, v1, v7, v8, ha, hf⟩
  simp only [intsD] at v0
  by_cases hi : i < l.length
  · obtain ⟨v, hv⟩ : ∃ v, l[i] = v := ⟨_, rfl⟩
    have hd : l.drop i = v :: l.drop (i + 1) := by rw [List.drop_eq_getElem_cons hi, hv]
    rw [hd, List.any_cons] at ha
    have w1 : IntKind.i64.wrap ((i : Int) + 1) = (i : Int) + 1 := wrap_i64 (by omega) (by omega)
    have c := fun h => call_of (h := h) (pg := pg) (f := 78) rfl rfl (out_run v (n := n) (by omega))
    cases hb : outR v with
    | true =>
      rw [hb] at c ha
      simp [k97l0, v0, v1, v7, v8, hi, hv, D.cells, c]
      exact .inr ⟨rfl, by rw [ha]; rfl, _, _, i, rfl, by simp, by repeat' first | exact hf | apply Heap.Fr.bump⟩
    | false =>
      rw [hb, Bool.false_or] at ha
      rw [hb] at c
      simp [k97l0, v0, v1, v7, v8, hi, hv, D.cells, c, w1]
      exact ⟨k - 1, by omega, _, _, i + 1, rfl, by omega, by simp [v0, intsD], by simp [v1], by simp [v7], by simp, ha, by repeat' first | exact hf | apply Heap.Fr.bump⟩
  · have hiF : i = l.length := by omega
    rw [hiF, List.drop_length] at ha
    simp [k97l0, v7, v8, hi]
    exact .inl ⟨rfl, ha, _, _, rfl, hf.bump _⟩
theorem if_sh (l : List Int) (hl : l.length ≤ 400) {h : Heap} (hf : h.Fr) {n : Nat} (hn : l.length + 10 ≤ n) : ∃ (z : Int) (h' : Heap), (rc pg n).fn 97 [intsD l, .fn (.func 78) [] []] h = some (.ret (D.int z), h') ∧ (h'.Fr ∧ decide (z ≥ 0) = l.any outR) := by
  obtain ⟨m, rfl, e⟩ := fn_body (pg := pg) (f := 97) (args := [intsD l, .fn (.func 78) [] []]) (h := h) (show 0 < n by omega) rfl rfl
  rw [e]
  simp [-ge_iff_le, -Int.not_lt, k97, Env.v_ini, intsD, ev_loop]
  refine tail_g (F := fun z : Int => D.int z) (C := fun (z : Int) (h' : Heap) => h'.Fr ∧ decide (z ≥ 0) = l.any outR) (lp_rule 4 (IfI l) _ (if_round l hl) l.length m _ (by omega) ⟨_, _, 0, rfl, by omega, by simp [Env.v_ini, intsD], by simp [Env.v_ini], by simp, by simp, rfl, by repeat' first | exact hf | apply Heap.Fr.bump⟩) ?_
  rintro x s (⟨rfl, ha, x, h1, rfl, f1⟩ | ⟨rfl, ha, x, h1, j, rfl, v4, f1⟩)
  · rw [ha]
    simp
    exact ⟨-1, _, ⟨rfl, rfl⟩, f1.bump _, by simp⟩
  · rw [ha]
    simp [v4]
    exact ⟨j, _, ⟨rfl, rfl⟩, f1, by omega⟩
theorem contains_sh (l : List Int) (hl : l.length ≤ 400) {h : Heap} (hf : h.Fr) {n : Nat} (hn : l.length + 20 ≤ n) : ∃ h' : Heap, (rc pg n).fn 77 [intsD l, .fn (.func 78) [] []] h = some (.ret (D.bool (l.any outR)), h') := by
  obtain ⟨m, rfl, e⟩ := fn_body (pg := pg) (f := 77) (args := [intsD l, .fn (.func 78) [] []]) (h := h) (show 0 < n by omega) rfl rfl
  rw [e]
  obtain ⟨H, hH⟩ : ∃ H, H = (h.bump 9).bump 9 := ⟨_, rfl⟩
  obtain ⟨z, h2, r2, _, hz⟩ := if_sh l hl (h := H) (by rw [hH]; exact (hf.bump _).bump _) (n := m) (by omega)
  have c2 := call_sh (pg := pg) (f := 97) rfl r2
  rw [← hz]
  simp only [intsD] at c2
  simp [k77, Env.v_ini, intsD, ← hH, c2]
def serF (l : List Int) : Bool := inR l.length 1 400 && !l.any outR
theorem series_run (l : List Int) {n : Nat} (hn : 500 ≤ n) : pureCall (rc pg n) 60 [intsD l] = some (.ret (D.bool (serF l))) := by
  obtain ⟨m, rfl, e⟩ := body (pg := pg) (f := 60) (args := [intsD l]) (show 0 < n by omega) rfl rfl
  rw [e]
  have hw := @within_run m (by omega)
  unfold serF
  cases h1 : inR l.length 1 400 with
  | false => simp [k60, Env.v_ini, intsD, hw, h1]
  | true =>
    have hl : l.length ≤ 400 := by unfold inR at h1; simp at h1; omega
    obtain ⟨H, hH⟩ : ∃ H, H = (Heap.empty.bump 11).bump 11 := ⟨_, rfl⟩
    obtain ⟨h2, r2⟩ := contains_sh l hl (h := H) (by rw [hH]; repeat' first | exact Heap.Fr.empty | apply Heap.Fr.bump) (n := m) (by omega)
    have c2 := call_sh (pg := pg) (f := 77) rfl r2
    simp only [intsD] at c2
    simp [-List.any_eq_true, -List.any_eq_false, k60, Env.v_ini, intsD, hw, h1, ← hH, c2]
end Go.Proofs.YtngjpeoloaeneaaGreatDoor
/- Series: the mean, by the program and by the document. -/
namespace Go.Proofs.YtngjpeoloaeneaaGreatDoor
open Go Go.Em
set_option maxRecDepth 100000
def OkS (l : List Int) : Prop := l.length ≤ 400 ∧ ∀ t ∈ l, 0 ≤ t ∧ t ≤ 200000
theorem ser_ok {l : List Int} (h : serF l = true) : OkS l ∧ 1 ≤ l.length := by
  unfold serF at h
  rw [Bool.and_eq_true] at h
  have h1 := h.1
  unfold inR at h1
  simp at h1
  have h2 : l.any outR = false := by simpa using h.2
  rw [List.any_eq_false] at h2
  refine ⟨⟨by omega, fun t ht => ?_⟩, by omega⟩
  have := h2 t ht
  unfold outR inR at this
  simpa using this
theorem sum_bd : ∀ {l : List Int}, (∀ t ∈ l, 0 ≤ t ∧ t ≤ 200000) → 0 ≤ l.sum ∧ l.sum ≤ 200000 * l.length
  | [], _ => by simp
  | a :: l, h => by
    have h1 := h a List.mem_cons_self
    have h2 := sum_bd fun t ht => h t (List.mem_cons_of_mem _ ht)
    rw [List.sum_cons, List.length_cons]
    omega
theorem OkS.part {l : List Int} (h : OkS l) (i w : Nat) : OkS ((l.drop i).take w) := by
  refine ⟨?_, fun t ht => h.2 t (List.mem_of_mem_drop (List.mem_of_mem_take ht))⟩
  have := h.1
  simp only [List.length_take, List.length_drop]
  omega
theorem take_sum {l : List Int} {i : Nat} (hi : i < l.length) : (l.take (i + 1)).sum = (l.take i).sum + l[i] := by
  rw [List.take_add_one, List.getElem?_eq_getElem hi, List.sum_append]
  show (l.take i).sum + [l[i]].sum = _
  rw [List.sum_cons, List.sum_nil, Int.add_zero]
theorem take_bd {l : List Int} (h : OkS l) (i : Nat) : 0 ≤ (l.take i).sum ∧ (l.take i).sum ≤ 80000000 := by
  have h1 := sum_bd fun t ht => h.2 t (List.mem_of_mem_take (i := i) ht)
  have h2 : (l.take i).length ≤ 400 := by have := h.1; simp only [List.length_take]; omega
  omega
theorem mk_ok {l : List Int} (h : OkS l) (h1 : 1 ≤ l.length) : mkO l.sum l.length = true := by
  have h2 := sum_bd h.2
  have h3 := h.1
  have a : inR l.sum (-1000000000) 1000000000 = true := by unfold inR; exact decide_eq_true (by omega)
  have b : inR l.length (-1000000000) 1000000000 = true := by unfold inR; exact decide_eq_true (by omega)
  have c : ((l.length : Int) != 0) = true := by rw [bne_iff_ne]; omega
  unfold mkO
  rw [a, b, c]; rfl
def menP (l : List Int) : D := mkP l.sum l.length
def MeI (l : List Int) (k : Nat) (s : St) : Prop := ∃ (x : Env 27) (h : Heap) (i : Nat), s = ⟨x.l, h, []⟩ ∧ i + k = l.length ∧ x.v 0 = intsD l ∧ x.v 2 = .ptr 2 0 ∧ x.v 4 = D.int (l.take i).sum ∧ x.v 11 = intsD l ∧ x.v 12 = D.int l.length ∧ x.v 13 = D.int i ∧ h.get 2 = some (.cells 36 [D.int 0, D.int 0])
theorem me_round (l : List Int) (hl : OkS l) : ∀ n, 1 ≤ n → ∀ k s, MeI l k s → Res (k32l0.ev ⟨pg, 27, none⟩ (rc pg n) s) (Rnd (MeI l) (fun x s => x = .exit 0 ∧ MeI l 0 s) k) := by
  rintro n hn k s ⟨x, h, i, rfl, hik, v0, v2, v4, v11, v12, v13, g2⟩
  have hl1 := hl.1
  simp only [intsD] at v11
  by_cases hi : i < l.length
  · obtain ⟨v, hv⟩ : ∃ v, l[i] = v := ⟨_, rfl⟩
    have hsum := take_sum hi
    rw [hv] at hsum
    have b1 := take_bd hl (i + 1)
    have w1 : IntKind.i64.wrap ((i : Int) + 1) = (i : Int) + 1 := wrap_i64 (by omega) (by omega)
    have w2 : IntKind.i64.wrap ((l.take i).sum + v) = (l.take i).sum + v := wrap_i64 (by omega) (by omega)
    simp [k32l0, v4, v11, v12, v13, hi, hv, D.cells, w1, w2]
    exact ⟨k - 1, by omega, _, _, i + 1, rfl, by omega, by simp [v0], by simp [v2], by simp [hsum], by simp [v11, intsD], by simp [v12], by simp, by simp [g2]⟩
  · simp [k32l0, v12, v13, hi]
    exact ⟨_, _, i, rfl, by omega, by simp [v0], by simp [v2], by simp [v4], by simp [v11, intsD], by simp [v12], by simp [v13], by simp [g2]⟩
def menR (l : List Int) : D := .tup [if serF l = true then menP l else frD 0 0, D.int (if serF l = true then 0 else 62)]
set_option maxHeartbeats 4000000 in
theorem mean_run (l : List Int) {n : Nat} (hn : 1000002000 ≤ n) : pureCall (rc pg n) 32 [intsD l] = some (.ret (menR l)) := by
  obtain ⟨m, rfl, e⟩ := body (pg := pg) (f := 32) (args := [intsD l]) (show 0 < n by omega) rfl rfl
  rw [e]
  have c := fun h => call_of (h := h) (pg := pg) (f := 60) rfl (ints_can l) (series_run l (n := m) (by omega))
  unfold menR
  simp only [intsD] at c
  cases hs : serF l with
  | false =>
    rw [hs] at c
    simp [k32, Env.v_ini, intsD, c, frD, D.cells, D.one]
  | true =>
    rw [hs] at c
    obtain ⟨ok, h1⟩ := ser_ok hs
    have hl1 := ok.1
    have mk := fun h => call_of (h := h) (pg := pg) (f := 26) rfl rfl (make_run l.sum l.length (f := m) (by omega))
    unfold mkR at mk
    rw [mk_ok ok h1] at mk
    obtain ⟨p, q, hpq⟩ : ∃ p q, mkP l.sum l.length = .agg [D.int p, D.int q] := by
      unfold mkP; split <;> exact ⟨_, _, rfl⟩
    unfold menP
    rw [hpq] at mk ⊢
    simp [k32, Env.v_ini, intsD, c, ev_loop]
    refine Res.endsAfter (lp_rule 1 (MeI l) _ (me_round l ok) l.length m _ (by omega) ⟨_, _, 0, rfl, by omega, by simp [Env.v_ini, intsD], by simp, by simp, by simp [intsD], by simp, by simp, by simp⟩) ?_
    rintro x s ⟨rfl, x, h, i, rfl, hi, v0, v2, v4, v11, v12, v13, g2⟩
    obtain rfl : i = l.length := by omega
    rw [List.take_length] at v4
    simp only [intsD] at v0
    simp [v0, v2, v4, mk, g2, D.cells, D.one]
end Go.Proofs.YtngjpeoloaeneaaGreatDoor
/- Series: the means of all windows, by the program and by the document. -/
namespace Go.Proofs.YtngjpeoloaeneaaGreatDoor
open Go Go.Em
set_option maxRecDepth 100000
abbrev Pr := Int × Int
def frC (p : Pr) : List D := [D.int p.1, D.int p.2]
def frsD (L : List Pr) : D := .sl false (L.map fun p => frD p.1 p.2)
def meP (l : List Int) : Pr := (mkN l.sum l.length, mkQ l.sum l.length)
theorem men_frD {l : List Int} (h : OkS l) (h1 : 1 ≤ l.length) : menP l = frD (meP l).1 (meP l).2 := by
  unfold menP mkP
  rw [mk_ok h h1]; rfl
theorem ok_ser {l : List Int} (h : OkS l) (h1 : 1 ≤ l.length) : serF l = true := by
  unfold serF
  have a : inR l.length 1 400 = true := by unfold inR; have := h.1; exact decide_eq_true (by omega)
  have b : l.any outR = false := by
    rw [List.any_eq_false]
    intro t ht
    have := h.2 t ht
    unfold outR inR
    simp; omega
  rw [a, b]; rfl
theorem head_ints : ∀ l : List Int, headOk 1 (l.map D.int) = true := by
  intro l; cases l <;> simp [headOk, D.cells]
def win (l : List Int) (w i : Nat) : List Int := (l.drop i).take w
theorem win_len {l : List Int} {w i : Nat} (h : i + w ≤ l.length) : (win l w i).length = w := by unfold win; simp; omega
def movP (l : List Int) (w n : Nat) : List Pr := (List.range n).map fun i => meP (win l w i)
theorem mov_snoc (l : List Int) (w n : Nat) : movP l w (n + 1) = movP l w n ++ [meP (win l w n)] := by unfold movP; rw [List.range_succ, List.map_append]; rfl
theorem mov_len (l : List Int) (w n : Nat) : (movP l w n).length = n := by simp [movP]
theorem cells_frs : ∀ L : List Pr, (L.flatMap frC).length = L.length * 2 := fun L => length_flatMap frC (fun _ => rfl) L
theorem fr_chunk (L : List Pr) (n : Nat) (hn : n = L.length) : chunk 2 n (L.flatMap frC) = L.map fun p => frD p.1 p.2 := chunk_flatMap frC (by decide) (fun _ => rfl) L n hn
def GM (h : Heap) (d : D) (L : List Pr) : Prop := (L = [] ∧ d = .val (.slice none 0 0)) ∨ ∃ k, d = .slr k 0 L.length 2 none ∧ h.get k = some (.cells 36 (L.flatMap frC)) ∧ k < h.next
theorem GM.keep {h h' : Heap} {d : D} {L : List Pr} (g : GM h d L) (hn : h.next ≤ h'.next) (hk : ∀ k, k < h.next → h'.get k = h.get k) : GM h' d L := by
  rcases g with g | ⟨k, a, b, c⟩
  · exact .inl g
  · exact .inr ⟨k, a, by rw [hk k c]; exact b, by omega⟩
theorem GM.frz {h : Heap} {d : D} {L : List Pr} (g : GM h d L) : ∃ ks, frz h depth d = some (frsD L, ks) := by
  rcases g with ⟨rfl, rfl⟩ | ⟨k, rfl, g, _⟩
  · exact ⟨[], rfl⟩
  · refine ⟨k :: [], ?_⟩
    have hea := each_canon h 22 (L.flatMap frC) (canonL_flatMap frC (fun c => by simp [frC]) L)
    have hc : (L.flatMap frC).take (L.length * 2) = L.flatMap frC := List.take_of_length_le (by rw [cells_frs]; omega)
    show Go.Em.frz h (23 + 1) _ = _
    rw [frz_slr, g, frzS_cells]
    simp only [List.drop_zero, hc, hea, Option.map_some, fr_chunk L _ rfl, Nat.zero_add]
    rw [if_pos ⟨by rw [cells_frs]; omega, by omega⟩]; rfl
def MvI (l : List Int) (w : Nat) (k : Nat) (s : St) : Prop := ∃ (x : Env 42) (h : Heap) (i : Nat) (d : D), s = ⟨x.l, h, []⟩ ∧ i + k = l.length - w + 1 ∧ x.v 0 = intsD l ∧ x.v 1 = D.int w ∧ x.v 22 = D.int ((l.length - w + 1 : Nat) : Int) ∧ x.v 23 = D.int i ∧ x.v 6 = d ∧ GM h d (movP l w i) ∧ h.Fr
set_option maxHeartbeats 4000000 in
theorem mv_round (l : List Int) (ok : OkS l) (w : Nat) (hw1 : 1 ≤ w) (hwl : w ≤ l.length) : ∀ n, 1000002000 ≤ n → ∀ k s, MvI l w k s → Res (k34l0.ev ⟨pg, 42, none⟩ (rc pg n) s) (Rnd (MvI l w) (fun x s => x = .exit 0 ∧ MvI l w 0 s) k) := by
  rintro n hn k s ⟨x, h, i, d, rfl, hik, v0, v1, v22, v23, v6, hd, hf⟩
  have hl1 := ok.1
  simp only [intsD] at v0
  obtain ⟨N, hN⟩ : ∃ N, N = l.length - w + 1 := ⟨_, rfl⟩
  rw [← hN] at hik v22
  by_cases hi : i < N
  · have hiw : i + w ≤ l.length := by omega
    have wl := win_len hiw
    have okw : OkS (win l w i) := ok.part i w
    have mr := mean_run (win l w i) (n := n) (by omega)
    unfold menR at mr
    rw [ok_ser okw (by omega), if_pos rfl, if_pos rfl, men_frD okw (by omega)] at mr
    have mk := fun h => call_of (h := h) (pg := pg) (f := 32) rfl (ints_can (win l w i)) mr
    have hsn := mov_snoc l w i
    have hml := mov_len l w i
    obtain ⟨P, hP⟩ : ∃ P, P = meP (win l w i) := ⟨_, rfl⟩
    obtain ⟨O, hO⟩ : ∃ O, O = movP l w i := ⟨_, rfl⟩
    rw [← hP] at mk hsn
    rw [← hO] at hsn hml hd
    simp only [intsD, frD] at mk
    have w1 : IntKind.i64.wrap ((i : Int) + 1) = (i : Int) + 1 := wrap_i64 (by omega) (by omega)
    have w2 : IntKind.i64.wrap ((i : Int) + w) = (i : Int) + w := wrap_i64 (by omega) (by omega)
    have hfr : ∀ j, h.raw (h.next + j) = none := fun j => hf _ (by omega)
    have c1 : (i : Int) ≤ (i : Int) + w := by omega
    have c2 : (i : Int) + w ≤ (l.length : Int) := by omega
    have hh1 := head_ints l
    have tk : ((i : Int) + (w : Int)).toNat - i = w := by omega
    have mt : List.take w (List.drop i (l.map D.int)) = (win l w i).map D.int := by unfold win; rw [List.map_take, List.map_drop]
    have hO48 : (O.length + 1) * 16 ≤ 140737488355328 := by omega
    have hcell : (O.flatMap frC) ++ frC P = (O ++ [P]).flatMap frC := by simp
    rcases hd with ⟨hO0, rfl⟩ | ⟨kk, rfl, hg, hkk⟩
    · subst hO0
      simp [k34l0, v0, v1, v22, v23, v6, hi, w1, w2, D.cells, D.one, hfr, Nat.add_assoc, c1, c2, tk, mt, hh1, mk, zerosD, apK_some, room, maxLen, List.range_succ]
      refine ⟨k - 1, by omega, _, _, i + 1, .slr (h.next + 165) 0 1 2 none, rfl, by omega, by simp [v0, intsD], by simp [v1], by simp [v22, hN], by simp, by simp, .inr ⟨h.next + 165, by simp [hsn], by simp [hsn, frC], by simp <;> omega⟩, ?_⟩
      repeat' first | exact hf | apply Heap.Fr.bump | apply Heap.Fr.set
      all_goals (simp <;> omega)
    · have ne1 : ∀ j, (h.next + j = kk) = False := fun j => by simp; omega
      have ne2 : ∀ j, (kk = h.next + j) = False := fun j => by simp; omega
      have happ := fun t hh news => appS_none (t := t) (et := 36) (sz := 2) (bytes := 16) (h := hh) (m := 1) (news := news) (k := kk) (n := O.length) (cs := O.flatMap frC) (cells_frs O) (by omega) (by unfold room; omega) (by unfold maxLen; omega)
      simp [k34l0, v0, v1, v22, v23, v6, hi, w1, w2, D.cells, D.one, hfr, Nat.add_assoc, c1, c2, tk, mt, hh1, mk, zerosD, apK_some, List.range_succ, hg, ne1, ne2, happ]
      refine ⟨k - 1, by omega, _, _, i + 1, .slr (h.next + 165) 0 (O.length + 1) 2 none, rfl, by omega, by simp [v0, intsD], by simp [v1], by simp [v22, hN], by simp, by simp, .inr ⟨h.next + 165, by simp [hsn], by simp [hsn, frC], by simp <;> omega⟩, ?_⟩
      repeat' first | exact hf | apply Heap.Fr.bump | apply Heap.Fr.set
      all_goals (simp <;> omega)
  · simp [k34l0, v22, v23, hi]
    exact ⟨_, _, i, d, rfl, by omega, by simp [v0, intsD], by simp [v1], by simp [v22, hN], by simp [v23], by simp [v6], hd.keep (by simp) (by simp), hf.bump _⟩
end Go.Proofs.YtngjpeoloaeneaaGreatDoor
