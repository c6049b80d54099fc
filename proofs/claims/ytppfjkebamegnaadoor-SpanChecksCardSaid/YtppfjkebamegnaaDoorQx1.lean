/- Parts, by the program: which marks are tied. -/
import Derived.Test.YtppfjkebamegnaaDoorQv1
import Derived.Test.YtppfjkebamegnaaDoorEmNet
import Derived.Test.YtppfjkebamegnaaDoorMul
import Derived.Test.YtppfjkebamegnaaDoorMul
namespace Go.Proofs.YtppfjkebamegnaaDoor
open Go Go.Em Go.Em.Net Go.Em.Tie
set_option maxRecDepth 100000
/-- Numbers of the first n, as cells. -/
def nCs (n : Nat) (f : Nat → Nat) : List D := (List.range n).map fun i => D.int (f i)
theorem nCs_len (n : Nat) (f : Nat → Nat) : (nCs n f).length = n := by simp [nCs]
theorem nCs_get {n : Nat} {f : Nat → Nat} {i : Nat} (h : i < n) : (nCs n f)[i]? = some (D.int (f i)) := by simp [nCs, h]
theorem nCs_put {n : Nat} {f : Nat → Nat} {i : Nat} (h : i < n) (v : Nat) : (nCs n f).take i ++ D.int v :: (nCs n f).drop (i + 1) = nCs n (fun j => if j = i then v else f j) := by
  apply List.ext_getElem?
  intro j
  by_cases hj : j < n
  · rw [nCs_get hj]
    rcases Nat.lt_trichotomy j i with h1 | h1 | h1
    · rw [List.getElem?_append_left (by simp [nCs]; omega), List.getElem?_take, if_pos h1, nCs_get hj, if_neg (by omega)]
    · subst h1
      rw [List.getElem?_append_right (by simp [nCs]; omega)]
      have : (List.take j (nCs n f)).length = j := by simp [nCs]; omega
      rw [this, Nat.sub_self, if_pos rfl]; rfl
    · rw [List.getElem?_append_right (by simp [nCs]; omega)]
      have : (List.take i (nCs n f)).length = i := by simp [nCs]; omega
      rw [this, show j - i = (j - i - 1) + 1 by omega, List.getElem?_cons_succ, List.getElem?_drop, show i + 1 + (j - i - 1) = j by omega, nCs_get hj, if_neg (by omega)]
  · rw [List.getElem?_eq_none (by simp [nCs]; omega), List.getElem?_eq_none (by simp [nCs]; omega)]
/-- One move: its end takes the lesser number. -/
def mvT (f : Nat → Nat) (m : Mo) : Nat → Nat := fun v => if v = m.to_ then min (f m.to_) (f m.fr) else f v
def qF1 (M : List Int) (L : List Mo) (f0 : Nat → Nat) (fb : Nat) (x0 : Env 51) (k : Nat) (s : St) : Prop := ∃ (x : Env 51) (h : Heap) (i : Nat), s = ⟨x.l, h, []⟩ ∧ i + k = L.length ∧ x.v 23 = x0.v 23 ∧ x.v 24 = x0.v 24 ∧ x.v 1 = .ptr 1 0 ∧ x.v 3 = .slr fb 0 M.length 1 (some M.length) ∧ x.v 27 = mosD L ∧ x.v 28 = D.int L.length ∧ x.v 29 = D.int i ∧ h.get 1 = some (.cells 83 [intsD M, mosD L]) ∧ h.get fb = some (.cells 3 (nCs M.length ((L.take i).foldl mvT f0))) ∧ 1 < h.next ∧ fb < h.next ∧ fb ≠ 1 ∧ h.Fr
set_option maxHeartbeats 8000000 in
theorem f1_round (M : List Int) (L : List Mo) (hL : L.length ≤ 1000) (hM : M.length ≤ 64) (hin : ∀ m ∈ L, m.fr < M.length ∧ m.to_ < M.length) (f0 : Nat → Nat) (fb : Nat) (x0 : Env 51) : ∀ n, 2 ≤ n → ∀ k s, qF1 M L f0 fb x0 k s → Res (k74l1.ev ⟨pg, 51, none⟩ (rc pg n) s) (Rnd (qF1 M L f0 fb x0) (fun x s => x = .exit 4 ∧ qF1 M L f0 fb x0 0 s) k) := by
  rintro n hn k s ⟨x, h, i, rfl, hik, v23, v24, v1, v3, v27, v28, v29, hg, hfb, n1', nfb, hne, hf⟩
  simp only [mosD] at v27 hg
  by_cases hi : i < L.length
  · obtain ⟨c, hc⟩ : ∃ c, L[i] = c := ⟨_, rfl⟩
    have htk : L.take (i + 1) = L.take i ++ [c] := by rw [List.take_add_one, List.getElem?_eq_getElem hi, hc]; rfl
    obtain ⟨hfr', hto⟩ := hin c (by rw [← hc]; exact List.getElem_mem hi)
    have w1 : IntKind.i64.wrap ((i : Int) + 1) = (i : Int) + 1 := wrap_i64 (by omega) (by omega)
    have hfr : ∀ j, h.raw (h.next + j) = none := fun j => hf _ (by omega)
    have n1 : ∀ j, (fb = h.next + j) = False := fun j => by (simp <;> omega)
    have n2 : ∀ j, (1 = h.next + j) = False := fun j => by (simp <;> omega)
    have n3 : ∀ j, (h.next + j = fb) = False := fun j => by (simp <;> omega)
    have n4 : ∀ j, (h.next + j = 1) = False := fun j => by (simp <;> omega)
    have n5 : (1 = fb) = False := by (simp <;> omega)
    obtain ⟨f, hfd⟩ : ∃ f, f = (L.take i).foldl mvT f0 := ⟨_, rfl⟩
    rw [← hfd] at hfb
    have hfs : (L.take (i + 1)).foldl mvT f0 = mvT f c := by rw [htk, List.foldl_append, ← hfd]; rfl
    obtain ⟨B, hB⟩ : ∃ B, B = nCs M.length f := ⟨_, rfl⟩
    have hBl : B.length = M.length := by rw [hB]; exact nCs_len _ _
    have a1 : B[c.fr]? = some (D.int (f c.fr)) := by rw [hB]; exact nCs_get hfr'
    have a2 : B[c.to_]? = some (D.int (f c.to_)) := by rw [hB]; exact nCs_get hto
    have e1 : ∀ h' : c.fr < B.length, B[c.fr]'h' = D.int (f c.fr) := fun h' => by have := List.getElem?_eq_getElem h'; rw [a1] at this; exact (Option.some.inj this).symm
    have e2 : ∀ h' : c.to_ < B.length, B[c.to_]'h' = D.int (f c.to_) := fun h' => by have := List.getElem?_eq_getElem h'; rw [a2] at this; exact (Option.some.inj this).symm
    have a1' : B[c.fr]?.getD D.junk = D.int (f c.fr) := by rw [a1]; rfl
    have a2' : B[c.to_]?.getD D.junk = D.int (f c.to_) := by rw [a2]; rfl
    obtain ⟨C2, hC2⟩ : ∃ C, C = nCs M.length (mvT f c) := ⟨_, rfl⟩
    have p1 : B.take c.to_ ++ D.int (min (f c.to_ : Int) (f c.fr : Int)) :: B.drop (c.to_ + 1) = C2 := by
      have : min (f c.to_ : Int) (f c.fr : Int) = ((min (f c.to_) (f c.fr) : Nat) : Int) := by omega
      rw [this, hB, nCs_put hto, hC2]; rfl
    rw [← hB] at hfb
    have l1 : c.fr + 1 ≤ M.length := hfr'
    have l2 : c.to_ + 1 ≤ M.length := hto
    have hz : zerosD [.int .i64 0, .bool false, .int .i64 0, .int .i64 0, .int .i64 0] 5 1 = [D.int 0, D.bool false, D.int 0, D.int 0, D.int 0] := rfl
    simp [k74l1, v1, v3, v27, v28, v29, hi, hc, moD, moC, hz, D.cells, D.one, hfr, Nat.add_assoc, n1, n2, n3, n4, n5, w1, hg, hfb, hBl, e1, e2, a1, a2, a1', a2', hfr', hto, l1, l2, p1]
    refine ⟨k - 1, by omega, _, _, i + 1, rfl, by omega, by simp [v23], by simp [v24], by simp [v1], by simp [v3], by simp [v27, mosD], by simp [v28], by simp, ?_, ?_, ?_, ?_, hne, ?_⟩
    · simp [n2, n5, hg, mosD]
    · rw [hfs, ← hC2]; simp [n1]
    · (simp <;> omega)
    · (simp <;> omega)
    · repeat' first | exact hf | apply Heap.Fr.bump | apply Heap.Fr.set
      all_goals (simp <;> omega)
  · simp [k74l1, v28, v29, hi]
    exact ⟨_, _, i, rfl, by omega, by simp [v23], by simp [v24], by simp [v1], by simp [v3], by simp [v27, mosD], by simp [v28], by simp [v29], by simp [hg, mosD], by simp [hfb], by (simp <;> omega), by (simp <;> omega), hne, hf.bump _⟩
/-- So many rounds. -/
def rndT (L : List Mo) : Nat → Nat → Nat
  | 0 => id
  | k + 1 => L.foldl mvT (rndT L k)
def qF2 (M : List Int) (L : List Mo) (fb : Nat) (k : Nat) (s : St) : Prop := ∃ (x : Env 51) (h : Heap) (r : Nat), s = ⟨x.l, h, []⟩ ∧ r + k = M.length ∧ x.v 23 = D.int M.length ∧ x.v 24 = D.int r ∧ x.v 1 = .ptr 1 0 ∧ x.v 3 = .slr fb 0 M.length 1 (some M.length) ∧ h.get 1 = some (.cells 83 [intsD M, mosD L]) ∧ h.get fb = some (.cells 3 (nCs M.length (rndT L r))) ∧ 1 < h.next ∧ fb < h.next ∧ fb ≠ 1 ∧ h.Fr
set_option maxHeartbeats 8000000 in
theorem f2_round (M : List Int) (L : List Mo) (hL : L.length ≤ 1000) (hM : M.length ≤ 64) (hin : ∀ m ∈ L, m.fr < M.length ∧ m.to_ < M.length) (fb : Nat) : ∀ n, 1100 ≤ n → ∀ k s, qF2 M L fb k s → Res (k74l2.ev ⟨pg, 51, none⟩ (rc pg n) s) (Rnd (qF2 M L fb) (fun x s => x = .exit 2 ∧ qF2 M L fb 0 s) k) := by
  rintro n hn k s ⟨x, h, r, rfl, hrk, v23, v24, v1, v3, hg, hfb, n1', nfb, hne, hf⟩
  by_cases hr : r < M.length
  · have w1 : IntKind.i64.wrap ((r : Int) + 1) = (r : Int) + 1 := wrap_i64 (by omega) (by omega)
    have o3 : ∀ (z : Bool) (l : List D), D.one (.sl z l) = true := fun _ _ => rfl
    have hg' := hg
    simp only [mosD] at hg'
    simp [k74l2, v23, v24, v1, v3, hr, D.cells, o3, hg', ev_loop]
    refine Res.qb (lp_rule 2 (qF1 M L (rndT L r) fb x) _ (f1_round M L hL hM hin (rndT L r) fb x) L.length n _ (by omega) ⟨_, _, 0, rfl, by omega, by simp, by simp, by simp [v1], by simp [v3], by simp [mosD], by simp, by simp, by simp [hg', mosD], by simp [hfb], by (simp <;> omega), by (simp <;> omega), hne, (hf.bump _).bump _⟩) ?_
    rintro x1 s1 ⟨rfl, y, h1, i, rfl, hi, y23, y24, y1, y3, y27, y28, y29, gg, gfb, m1, mfb, hne', hf1⟩
    have hil : i = L.length := by omega
    subst hil
    rw [List.take_length] at gfb
    rw [v23] at y23
    rw [v24] at y24
    simp [y23, y24, y1, y3, w1]
    exact ⟨k - 1, by omega, _, _, r + 1, rfl, by omega, by simp [y23], by simp, by simp [y1], by simp [y3], by simp [gg], by simp [gfb]; rfl, by (simp <;> omega), by (simp <;> omega), hne', hf1.bump _⟩
  · simp [k74l2, v23, v24, hr]
    exact ⟨_, _, r, rfl, by omega, by simp [v23], by simp [v24], by simp [v1], by simp [v3], by simp [hg], by simp [hfb], by (simp <;> omega), by (simp <;> omega), hne, hf.bump _⟩
def qF0 (M : List Int) (L : List Mo) (fb : Nat) (k : Nat) (s : St) : Prop := ∃ (x : Env 51) (h : Heap) (r : Nat) (B : List D), s = ⟨x.l, h, []⟩ ∧ r + k = M.length ∧ x.v 12 = D.int M.length ∧ x.v 13 = D.int r ∧ x.v 1 = .ptr 1 0 ∧ x.v 3 = .slr fb 0 M.length 1 (some M.length) ∧ h.get 1 = some (.cells 83 [intsD M, mosD L]) ∧ h.get fb = some (.cells 3 B) ∧ B.length = M.length ∧ (∀ q, q < r → B[q]? = some (D.int (q : Int))) ∧ 1 < h.next ∧ fb < h.next ∧ fb ≠ 1 ∧ h.Fr
set_option maxHeartbeats 8000000 in
theorem f0_round (M : List Int) (L : List Mo) (hM : M.length ≤ 64) (fb : Nat) : ∀ n, 2 ≤ n → ∀ k s, qF0 M L fb k s → Res (k74l0.ev ⟨pg, 51, none⟩ (rc pg n) s) (Rnd (qF0 M L fb) (fun x s => x = .exit 0 ∧ qF0 M L fb 0 s) k) := by
  rintro n hn k s ⟨x, h, r, B, rfl, hrk, v12, v13, v1, v3, hg, hfb, hBl, hB, n1', nfb, hne, hf⟩
  by_cases hr : r < M.length
  · have w1 : IntKind.i64.wrap ((r : Int) + 1) = (r : Int) + 1 := wrap_i64 (by omega) (by omega)
    have l1 : r + 1 ≤ M.length := hr
    have n5 : (1 = fb) = False := by (simp <;> omega)
    simp [k74l0, v12, v13, v1, v3, hr, w1, hfb, hBl, D.cells, D.one, l1]
    refine ⟨k - 1, by omega, _, _, r + 1, _, rfl, by omega, by simp [v12], by simp, by simp [v1], by simp [v3], by simp [n5, hg], by simp; rfl, by (simp <;> omega), fun q hq => ?_, by (simp <;> omega), by (simp <;> omega), hne, ?_⟩
    · by_cases e : q = r
      · subst e
        rw [List.getElem?_append_right (by (simp <;> omega))]
        have : (List.take q B).length = q := by (simp <;> omega)
        rw [this, Nat.sub_self]; rfl
      · rw [List.getElem?_append_left (by (simp <;> omega)), List.getElem?_take, if_pos (by omega)]
        exact hB q (by omega)
    · repeat' first | exact hf | apply Heap.Fr.bump | apply Heap.Fr.set
      all_goals (simp <;> omega)
  · simp [k74l0, v12, v13, hr]
    exact ⟨_, _, r, B, rfl, by omega, by simp [v12], by simp [v13], by simp [v1], by simp [v3], by simp [hg], by simp [hfb], hBl, hB, by (simp <;> omega), by (simp <;> omega), hne, hf.bump _⟩
end Go.Proofs.YtppfjkebamegnaaDoor
/- Parts, by the program: which marks are tied, as a function; as pairs of marks. -/
namespace Go.Proofs.YtppfjkebamegnaaDoor
open Go Go.Em Go.Em.Net Go.Em.Tie
set_option maxRecDepth 100000
theorem nCs_ext {n : Nat} {B : List D} {f : Nat → Nat} (h1 : B.length = n) (h2 : ∀ q, q < n → B[q]? = some (D.int (f q : Int))) : B = nCs n f := by
  apply List.ext_getElem?
  intro q
  by_cases h : q < n
  · rw [h2 q h, nCs_get h]
  · rw [List.getElem?_eq_none (by omega), List.getElem?_eq_none (by simp [nCs]; omega)]
theorem nCs_canon (n : Nat) (f : Nat → Nat) : D.canonL (nCs n f) = true := by unfold nCs; exact canonL_map (fun i => D.int (f i : Int)) (fun _ => rfl) _
def tiedD (M : List Int) (f : Nat → Nat) : D := .sl false (nCs M.length f)
set_option maxHeartbeats 8000000 in
theorem tied_run (M : List Int) (L : List Mo) (hL : L.length ≤ 1000) (hM : M.length ≤ 64) (hin : ∀ m ∈ L, m.fr < M.length ∧ m.to_ < M.length) {n : Nat} (hn : 1300 ≤ n) : pureCall (rc pg n) 74 [grD M L] = some (.ret (tiedD M (rndT L M.length))) := by
  obtain ⟨m, rfl, e⟩ := body (pg := pg) (f := 74) (args := [grD M L]) (show 0 < n by omega) rfl rfl
  rw [e]
  have hroom : (8 : Int) * M.length ≤ (room : Int) := by unfold room; omega
  have hroom2 : M.length * 8 ≤ room := by unfold room; omega
  have o3 : ∀ (z : Bool) (l : List D), D.one (.sl z l) = true := fun _ _ => rfl
  simp [k74, Env.v_ini, grD, intsD, mosD, D.cells, o3, hroom, hroom2, ev_loop]
  refine Res.endsAfter (lp_rule 2 (qF0 M L 61) _ (f0_round M L hM 61) M.length m _ (by omega) ⟨_, _, 0, _, rfl, by omega, by simp, by simp, by simp, by simp, by simp [intsD, mosD], by simp; rfl, by rw [zer_rep]; simp, fun q hq => by omega, by simp, by simp, by omega, ?_⟩) ?_
  · repeat' first | exact Heap.Fr.empty | apply Heap.Fr.bump | apply Heap.Fr.set
    all_goals (simp <;> omega)
  rintro x s ⟨rfl, x, h, r, B, rfl, hr, v12, v13, v1, v3, hg, hfb, hBl, hB, n1, nfb, hne, hf⟩
  have hrM : r = M.length := by omega
  subst hrM
  have hBe := nCs_ext hBl hB
  have hg' := hg
  simp only [intsD, mosD] at hg'
  simp [v1, v3, hg', D.cells, o3, ev_loop]
  refine Res.endsAfter (lp_rule 1100 (qF2 M L 61) _ (f2_round M L hL hM hin 61) M.length m _ (by omega) ⟨_, _, 0, rfl, by omega, by simp, by simp, by simp [v1], by simp [v3], by simp [hg], by simp [hfb]; exact hBe, by (simp <;> omega), by (simp <;> omega), hne, hf.bump _⟩) ?_
  rintro x s ⟨rfl, x, h, r, rfl, hr, v23, v24, v1, v3, hg, hfb, n1, nfb, hne, hf⟩
  have hrM : r = M.length := by omega
  subst hrM
  have hfz : ∀ H : Heap, frzS H 23 61 0 M.length 1 (some (.cells 3 (nCs M.length (rndT L M.length)))) = some (tiedD M (rndT L M.length), [61]) := by
    intro H
    have hle : 0 + M.length * 1 ≤ (nCs M.length (rndT L M.length)).length ∧ 0 < 1 := by rw [nCs_len]; omega
    have htk : ((nCs M.length (rndT L M.length)).drop 0).take (M.length * 1) = nCs M.length (rndT L M.length) := List.take_of_length_le (by rw [List.drop_zero, nCs_len]; omega)
    rw [frzS_cells, if_pos hle, htk, each_canon H 22 _ (nCs_canon _ _)]
    simp only [Option.map_some]
    have : chunk 1 M.length (nCs M.length (rndT L M.length)) = nCs M.length (rndT L M.length) := by
      have := chunk_ints ((List.range M.length).map fun i => ((rndT L M.length i : Nat) : Int))
      simpa [nCs, List.map_map, Function.comp_def] using this
    rw [this]
    rfl
  simp [v3, hfb, hfz]
theorem mv_tie (M : List Int) (i : Nat) (c : Clm) (f : Nat → Nat) : (movF M i c).foldl mvT f = tie f (placeF M c.a, placeF M c.b) := by
  funext v
  show mvT (mvT f _) _ v = _
  unfold mvT tie
  simp only
  by_cases h1 : v = placeF M c.a
  · by_cases h2 : v = placeF M c.b
    · subst h1
      simp [← h2]
    · subst h1
      simp [h2]
      try omega
  · by_cases h2 : v = placeF M c.b
    · subst h2
      simp [h1]
      try omega
    · simp [h1, h2]
def prsF (M : List Int) (l : List Clm) : List (Nat × Nat) := l.map fun c => (placeF M c.a, placeF M c.b)
theorem mvs_tie (M : List Int) : ∀ (l : List Clm) (i : Nat) (f : Nat → Nat), (movsF M i l).foldl mvT f = (prsF M l).foldl tie f
  | [], _, _ => rfl
  | c :: l, i, f => by
    rw [movsF, List.foldl_append, mv_tie, mvs_tie M l (i + 1)]
    rfl
theorem rnd_tie (M : List Int) (l : List Clm) : ∀ k, rndT (movsF M 0 l) k = tieN (prsF M l) k
  | 0 => rfl
  | k + 1 => by
    show (movsF M 0 l).foldl mvT (rndT _ k) = (prsF M l).foldl tie (tieN _ k)
    rw [mvs_tie, rnd_tie M l k]
end Go.Proofs.YtppfjkebamegnaaDoor
/- Parts, by the program: one part. -/
namespace Go.Proofs.YtppfjkebamegnaaDoor
open Go Go.Em Go.Em.Net Go.Em.Tie
set_option maxRecDepth 100000
/-- The marks among the first j whose number is i. -/
def ptF (M : List Int) (f : Nat → Nat) (i j : Nat) : List Int := ((List.range j).filter fun t => decide (f t = i)).map fun t => M.getD t 0
theorem pt_step (M : List Int) (f : Nat → Nat) (i j : Nat) : ptF M f i (j + 1) = ptF M f i j ++ if f j = i then [M.getD j 0] else [] := by
  unfold ptF
  rw [List.range_succ, List.filter_append, List.map_append]
  congr 1
  by_cases h : f j = i <;> simp [h]
theorem pt_len (M : List Int) (f : Nat → Nat) (i j : Nat) : (ptF M f i j).length ≤ j := by
  unfold ptF
  rw [List.length_map]
  exact Nat.le_trans (List.length_filter_le _ _) (by simp)
/-- A list that grows by appends: nil, or a block of its own. -/
def IsPt (d : D) (P : List Int) (hb h : Heap) : Prop := (P = [] ∧ d = .val (.slice none 0 0)) ∨ (P ≠ [] ∧ ∃ pb, d = .slr pb 0 P.length 1 none ∧ h.get pb = some (.cells 3 (P.map D.int)) ∧ hb.next ≤ pb ∧ pb < h.next)
def qPtI (M : List Int) (f : Nat → Nat) (i : Nat) (hb : Heap) (x0 : Env 54) (k : Nat) (s : St) : Prop := ∃ (x : Env 54) (h : Heap) (j : Nat), s = ⟨x.l, h, []⟩ ∧ j + k = M.length ∧ (∀ q, q = 3 ∨ q = 4 ∨ q = 5 ∨ q = 6 ∨ q = 19 ∨ q = 20 → x.v q = x0.v q) ∧ x.v 30 = intsD M ∧ x.v 31 = D.int M.length ∧ x.v 32 = D.int j ∧ IsPt (x.v 7) (ptF M f i j) hb h ∧ h.Fr ∧ Un hb h
theorem fr_slots {x y : Env 54} {x0 : Env 54} (h : ∀ q, q = 3 ∨ q = 4 ∨ q = 5 ∨ q = 6 ∨ q = 19 ∨ q = 20 → x.v q = x0.v q) (e : y.v 3 = x.v 3 ∧ y.v 4 = x.v 4 ∧ y.v 5 = x.v 5 ∧ y.v 6 = x.v 6 ∧ y.v 19 = x.v 19 ∧ y.v 20 = x.v 20) : ∀ q, q = 3 ∨ q = 4 ∨ q = 5 ∨ q = 6 ∨ q = 19 ∨ q = 20 → y.v q = x0.v q := by
  obtain ⟨e1, e2, e3, e4, e5, e6⟩ := e
  rintro q (rfl | rfl | rfl | rfl | rfl | rfl)
  · rw [e1]; exact h _ (by simp)
  · rw [e2]; exact h _ (by simp)
  · rw [e3]; exact h _ (by simp)
  · rw [e4]; exact h _ (by simp)
  · rw [e5]; exact h _ (by simp)
  · rw [e6]; exact h _ (by simp)
set_option maxHeartbeats 8000000 in
theorem pt_round (M : List Int) (hM : M.length ≤ 64) (f : Nat → Nat) (i : Nat) (hb : Heap) (x0 : Env 54) (z4 : x0.v 4 = tiedD M f) (z6 : x0.v 6 = D.int i) : ∀ n, 2 ≤ n → ∀ k s, qPtI M f i hb x0 k s → Res (k35l0.ev ⟨pg, 54, none⟩ (rc pg n) s) (Rnd (qPtI M f i hb x0) (fun x s => x = .exit 2 ∧ qPtI M f i hb x0 0 s) k) := by
  rintro n hn k s ⟨x, h, j, rfl, hjk, sm, v30, v31, v32, hp, hf, hu1, hu2⟩
  have v4 := (sm 4 (by simp)).trans z4
  have v6 := (sm 6 (by simp)).trans z6
  simp only [intsD] at v30
  by_cases hj : j < M.length
  · have w1 : IntKind.i64.wrap ((j : Int) + 1) = (j : Int) + 1 := wrap_i64 (by omega) (by omega)
    have hfr : ∀ j, h.raw (h.next + j) = none := fun j => hf _ (by omega)
    obtain ⟨a, ha⟩ : ∃ a, M[j] = a := ⟨_, rfl⟩
    have had : M.getD j 0 = a := by simp [List.getD, List.getElem?_eq_getElem hj, ha]
    have hst := pt_step M f i j
    have hlen := pt_len M f i j
    rw [had] at hst
    obtain ⟨B, hB⟩ : ∃ B, B = nCs M.length f := ⟨_, rfl⟩
    have v4' : x.v 4 = .sl false B := by rw [v4, hB]; rfl
    have a1 : B[j]? = some (D.int (f j)) := by rw [hB]; exact nCs_get hj
    have hBl : B.length = M.length := by rw [hB]; exact nCs_len _ _
    have e1 : ∀ h' : j < B.length, B[j]'h' = D.int (f j) := fun h' => by have := List.getElem?_eq_getElem h'; rw [a1] at this; exact (Option.some.inj this).symm
    have hc1 : (D.int (f j : Int)).cells.length = 1 := rfl
    by_cases hfj : f j = i
    · have hv : ((f j : Int) == (i : Int)) = true := by simp; omega
      rw [if_pos hfj] at hst
      have hz1 : zerosD [.int .i64 0] 1 1 = [D.int 0] := rfl
      rcases hp with ⟨hP, v7⟩ | ⟨hP, pb, v7, hg, hb1, hb2⟩
      · rw [hP, List.nil_append] at hst
        have r1 : 1 * 8 ≤ room ∧ 1 ≤ maxLen := by unfold room maxLen; omega
        simp [-beq_iff_eq, k35l0, v30, v31, v32, v4', v6, v7, hj, ha, a1, e1, hBl, hv, w1, D.cells, D.one, hfr, Nat.add_assoc, hz1, apK_some, r1]
        refine ⟨k - 1, by omega, _, _, j + 1, rfl, by omega, fr_slots sm (by simp), by simp [v30, intsD], by simp [v31], by simp, .inr ⟨by rw [hst]; simp, h.next + 208, by rw [hst]; simp, by rw [hst]; simp, by omega, by (simp <;> omega)⟩, ?_, by (simp <;> omega), fun q hq => ?_⟩
        · repeat' first | exact hf | apply Heap.Fr.bump | apply Heap.Fr.set
          all_goals (simp <;> omega)
        · have e2 : ∀ z, (q = h.next + z) = False := fun z => by simp; omega
          simp [e2, hu2 q hq]
      · obtain ⟨p, hp⟩ : ∃ p, p = (ptF M f i j).length := ⟨_, rfl⟩
        obtain ⟨C, hC⟩ : ∃ C, C = (ptF M f i j).map D.int := ⟨_, rfl⟩
        have hCl : C.length = p * 1 := by rw [hC, List.length_map, hp]; omega
        rw [← hp] at v7 hlen
        rw [← hC] at hg
        have n1 : ∀ j, (pb = h.next + j) = False := fun j => by simp; omega
        have n2 : ∀ j, (h.next + j = pb) = False := fun j => by simp; omega
        have happ : ∀ (t : Nat) (h : Heap), appS t 3 1 8 h 1 [D.int a] pb 0 p 1 none (some (.cells 3 C)) = ((h.set pb none).alloc t (.cells 3 (C ++ [D.int a]))).map fun h => (.slr t 0 (p + 1) 1 none, h) := fun t h =>
          appS_none hCl (by omega) (by unfold room; omega) (by unfold maxLen; omega)
        simp [-beq_iff_eq, k35l0, v30, v31, v32, v4', v6, v7, hj, ha, a1, e1, hBl, hv, w1, D.cells, D.one, hfr, Nat.add_assoc, hz1, apK_some, n1, n2, hg, happ]
        refine ⟨k - 1, by omega, _, _, j + 1, rfl, by omega, fr_slots sm (by simp), by simp [v30, intsD], by simp [v31], by simp, .inr ⟨by rw [hst]; simp, h.next + 208, by rw [hst, List.length_append, ← hp]; simp, by rw [hst, List.map_append, ← hC]; simp, by omega, by (simp <;> omega)⟩, ?_, by (simp <;> omega), fun q hq => ?_⟩
        · repeat' first | exact hf | apply Heap.Fr.bump | apply Heap.Fr.set
          all_goals (simp <;> omega)
        · have e2 : ∀ z, (q = h.next + z) = False := fun z => by simp; omega
          have e3 : (q = pb) = False := by simp; omega
          simp [e2, e3, hu2 q hq]
    · have hv : ((f j : Int) == (i : Int)) = false := by simp; omega
      rw [if_neg hfj, List.append_nil] at hst
      simp [-beq_iff_eq, -beq_eq_false_iff_ne, k35l0, v30, v31, v32, v4', v6, hj, ha, a1, e1, hBl, hv, w1, D.cells, D.one]
      exact ⟨k - 1, by omega, _, _, j + 1, rfl, by omega, fr_slots sm (by simp), by simp [v30, intsD], by simp [v31], by simp, by
        rw [hst]
        rcases hp with ⟨hP, v7⟩ | ⟨hP, pb, v7, hg, hb1, hb2⟩
        · exact .inl ⟨hP, by simp [v7]⟩
        · exact .inr ⟨hP, pb, by simp [v7], by simp [hg], hb1, by (simp <;> omega)⟩, (((hf.bump _).bump _).bump _).bump _, by (simp <;> omega), fun q hq => by simp [hu2 q hq]⟩
  · simp [k35l0, v31, v32, hj]
    exact ⟨_, _, j, rfl, by omega, fr_slots sm (by simp), by simp [v30, intsD], by simp [v31], by simp [v32], by
      rcases hp with ⟨hP, v7⟩ | ⟨hP, pb, v7, hg, hb1, hb2⟩
      · exact .inl ⟨hP, by simp [v7]⟩
      · exact .inr ⟨hP, pb, by simp [v7], by simp [hg], hb1, by (simp <;> omega)⟩, hf.bump _, by (simp <;> omega), fun q hq => by simp [hu2 q hq]⟩
end Go.Proofs.YtppfjkebamegnaaDoor
/- Parts, by the program: all parts. -/
namespace Go.Proofs.YtppfjkebamegnaaDoor
open Go Go.Em Go.Em.Net Go.Em.Tie
set_option maxRecDepth 100000
/-- Lists behind a block of references. -/
def Rws (rs : List D) (O : List (List Int)) (ob : Nat) (h : Heap) : Prop := rs.length = O.length ∧ ∀ (q : Nat) (x : List Int), O[q]? = some x → ∃ pb, rs[q]? = some (.slr pb 0 x.length 1 none) ∧ h.get pb = some (.cells 3 (x.map D.int)) ∧ pb ≠ ob ∧ pb < h.next
def IsOut (d : D) (O : List (List Int)) (h : Heap) : Prop := (O = [] ∧ d = .val (.slice none 0 0)) ∨ (O ≠ [] ∧ ∃ ob rs, d = .slr ob 0 O.length 1 none ∧ h.get ob = some (.cells 31 rs) ∧ ob < h.next ∧ Rws rs O ob h)
theorem un_get {h h' : Heap} (u : Un h h') {q : Nat} (hq : q < h.next) : h'.get q = h.get q := by unfold Heap.get; rw [u.2 q hq]
theorem Rws.mono {rs : List D} {O : List (List Int)} {ob : Nat} {h h' : Heap} (r : Rws rs O ob h) (u : Un h h') : Rws rs O ob h' :=
  ⟨r.1, fun q x hx => by
    obtain ⟨pb, h1, h2, h3, h4⟩ := r.2 q x hx
    exact ⟨pb, h1, by rw [un_get u h4]; exact h2, h3, by have := u.1; omega⟩⟩
theorem IsOut.mono {d : D} {O : List (List Int)} {h h' : Heap} (o : IsOut d O h) (u : Un h h') : IsOut d O h' := by
  rcases o with o | ⟨h0, ob, rs, h1, h2, h3, h4⟩
  · exact .inl o
  · exact .inr ⟨h0, ob, rs, h1, by rw [un_get u h3]; exact h2, by have := u.1; omega, h4.mono u⟩
theorem un_bump (h : Heap) (z : Nat) : Un h (h.bump z) := ⟨by simp, fun j _ => by simp⟩
theorem un_trans {a b c : Heap} (x : Un a b) (y : Un b c) : Un a c := ⟨Nat.le_trans x.1 y.1, fun j hj => by rw [y.2 j (by have := x.1; omega), x.2 j hj]⟩
/-- One more list: the references are copied to a new block. -/
theorem Rws.snoc {rs : List D} {O : List (List Int)} {ob : Nat} {h h' : Heap} (r : Rws rs O ob h) {pb ob' : Nat} {P : List Int} (hob : h.next ≤ ob') (hs : ∀ q, q < h.next → q ≠ ob → h'.get q = h.get q) (hn : h.next ≤ h'.next) (hp : h'.get pb = some (.cells 3 (P.map D.int))) (hp1 : pb ≠ ob') (hp2 : pb < h'.next) : Rws (rs ++ [.slr pb 0 P.length 1 none]) (O ++ [P]) ob' h' := by
  refine ⟨by simp [r.1], fun q x hx => ?_⟩
  by_cases hq : q < O.length
  · rw [List.getElem?_append_left hq] at hx
    obtain ⟨p, h1, h2, h3, h4⟩ := r.2 q x hx
    exact ⟨p, by rw [List.getElem?_append_left (by rw [r.1]; exact hq)]; exact h1, by rw [hs p h4 h3]; exact h2, by omega, by omega⟩
  · have hqe : q = O.length := by
      rcases Nat.lt_or_ge q (O ++ [P]).length with h1 | h1
      · simp at h1; omega
      · rw [List.getElem?_eq_none h1] at hx; cases hx
    subst hqe
    rw [List.getElem?_append_right (Nat.le_refl _), Nat.sub_self] at hx
    simp at hx
    subst hx
    exact ⟨pb, by rw [List.getElem?_append_right (by rw [r.1]; exact Nat.le_refl _), r.1, Nat.sub_self]; rfl, hp, hp1, hp2⟩
/-- The parts of the first i marks. -/
def pasF (M : List Int) (f : Nat → Nat) (i : Nat) : List (List Int) := ((List.range i).filter fun t => decide (f t = t)).map fun t => ptF M f t M.length
theorem pas_step (M : List Int) (f : Nat → Nat) (i : Nat) : pasF M f (i + 1) = pasF M f i ++ if f i = i then [ptF M f i M.length] else [] := by
  unfold pasF
  rw [List.range_succ, List.filter_append, List.map_append]
  congr 1
  by_cases h : f i = i <;> simp [h]
theorem pas_len (M : List Int) (f : Nat → Nat) (i : Nat) : (pasF M f i).length ≤ i := by
  unfold pasF
  rw [List.length_map]
  exact Nat.le_trans (List.length_filter_le _ _) (by simp)
def qPaI (M : List Int) (L : List Mo) (f : Nat → Nat) (gb : Nat) (k : Nat) (s : St) : Prop := ∃ (x : Env 54) (h : Heap) (i : Nat), s = ⟨x.l, h, []⟩ ∧ i + k = M.length ∧ x.v 3 = .ptr gb 0 ∧ x.v 4 = tiedD M f ∧ x.v 19 = D.int M.length ∧ x.v 20 = D.int i ∧ IsOut (x.v 5) (pasF M f i) h ∧ h.get gb = some (.cells 83 [intsD M, mosD L]) ∧ gb < h.next ∧ h.Fr
set_option maxHeartbeats 16000000 in
theorem pa_round (M : List Int) (L : List Mo) (hM : M.length ≤ 64) (f : Nat → Nat) (gb : Nat) : ∀ n, 200 ≤ n → ∀ k s, qPaI M L f gb k s → Res (k35l1.ev ⟨pg, 54, none⟩ (rc pg n) s) (Rnd (qPaI M L f gb) (fun x s => x = .exit 0 ∧ qPaI M L f gb 0 s) k) := by
  rintro n hn k s ⟨x, h, i, rfl, hik, v3, v4, v19, v20, ho, hg, ngb, hf⟩
  by_cases hi : i < M.length
  · have w1 : IntKind.i64.wrap ((i : Int) + 1) = (i : Int) + 1 := wrap_i64 (by omega) (by omega)
    obtain ⟨B, hB⟩ : ∃ B, B = nCs M.length f := ⟨_, rfl⟩
    have v4' : x.v 4 = .sl false B := by rw [v4, hB]; rfl
    have a1 : B[i]? = some (D.int (f i)) := by rw [hB]; exact nCs_get hi
    have hBl : B.length = M.length := by rw [hB]; exact nCs_len _ _
    have e1 : ∀ h' : i < B.length, B[i]'h' = D.int (f i) := fun h' => by have := List.getElem?_eq_getElem h'; rw [a1] at this; exact (Option.some.inj this).symm
    have hst := pas_step M f i
    have hlen := pas_len M f i
    by_cases hfi : f i = i
    · have hv : ((f i : Int) != (i : Int)) = false := by simp; omega
      rw [if_pos hfi] at hst
      have o3 : ∀ (z : Bool) (l : List D), D.one (.sl z l) = true := fun _ _ => rfl
      have hg' := hg
      simp only [intsD] at hg'
      simp [-bne_iff_ne, -bne_eq_false_iff_eq, k35l1, v3, v4', v19, v20, hi, a1, e1, hBl, hv, D.cells, D.one, o3, hg', ev_loop]
      obtain ⟨x0, hx0⟩ : ∃ x0 : Env 54, x0 = ((((((((((((((x.upd 21 (D.bool true)).upd 22 (D.int i)).upd 6 (D.int i)).upd 23 (.sl false B)).upd 24 (D.int i)).upd 25 (.eref [D.int (f i)])).upd 26 (D.int (f i))).upd 27 (D.int i)).upd 28 (D.bool false)).upd 7 (.val (.slice none 0 0))).upd 29 (.ptr gb 0)).upd 30 (.sl false (M.map D.int))).upd 31 (D.int M.length)).upd 32 (D.int 0)) := ⟨_, rfl⟩
      obtain ⟨hb, hhb⟩ : ∃ hb, hb = ((((h.bump 54).bump 54).bump 54).bump 54).bump 54 := ⟨_, rfl⟩
      have uhb : Un h hb := by rw [hhb]; exact un_trans (un_trans (un_trans (un_trans (un_bump _ 54) (un_bump _ 54)) (un_bump _ 54)) (un_bump _ 54)) (un_bump _ 54)
      have hbf : hb.Fr := by rw [hhb]; exact ((((hf.bump _).bump _).bump _).bump _).bump _
      refine Res.qe (lp_rule 2 (qPtI M f i hb x0) _ (pt_round M hM f i hb x0 (by rw [hx0]; simp [v4]) (by rw [hx0]; simp)) M.length n _ (by omega) ⟨x0, hb, 0, by rw [hx0, hhb], by omega, fun _ _ => rfl, by rw [hx0]; simp [intsD], by rw [hx0]; simp, by rw [hx0]; simp, .inl ⟨rfl, by rw [hx0]; simp⟩, hbf, Nat.le_refl _, fun _ _ => rfl⟩) ?_
      rintro x1 s1 ⟨rfl, y, h1, j, rfl, hj, sm, y30, y31, y32, hp, hf1, hu1, hu2⟩
      have hjM : j = M.length := by omega
      subst hjM
      have u1 : Un h h1 := un_trans uhb ⟨hu1, hu2⟩
      have y3 := sm 3 (by simp)
      have y4 := sm 4 (by simp)
      have y5 := sm 5 (by simp)
      have y19 := sm 19 (by simp)
      have y20 := sm 20 (by simp)
      rw [hx0] at y3 y4 y5 y19 y20
      simp [v3, v4, v19, v20] at y3 y4 y5 y19 y20
      have hPne : ptF M f i M.length ≠ [] := by
        intro h0
        have : M.getD i 0 ∈ ptF M f i M.length := by
          unfold ptF
          exact List.mem_map.2 ⟨i, List.mem_filter.2 ⟨List.mem_range.2 hi, by simp [hfi]⟩, rfl⟩
        rw [h0] at this; cases this
      rcases hp with ⟨hP, _⟩ | ⟨_, pb, y7, hgp, hb1, hb2⟩
      · exact absurd hP hPne
      have ho1 := ho.mono u1
      have hg1 : h1.get gb = some (.cells 83 [intsD M, mosD L]) := by rw [un_get u1 ngb]; exact hg
      have ngb1 : gb < h1.next := by have := u1.1; omega
      have hpb : h.next ≤ pb := by have := uhb.1; omega
      rw [← y5] at ho1
      obtain ⟨P, hPd⟩ : ∃ P, P = ptF M f i M.length := ⟨_, rfl⟩
      rw [← hPd] at y7 hgp hst
      have hfr : ∀ j, h1.raw (h1.next + j) = none := fun j => hf1 _ (by omega)
      have hz1 : zerosD [.slice none 0 0] 1 1 = [.val (.slice none 0 0)] := rfl
      have o1 : ∀ a b c d (e : Option Nat), D.one (.slr a b c d e) = true := fun _ _ _ _ _ => rfl
      have o2 : ∀ a b c d (e : Option Nat), D.cells (.slr a b c d e) = [.slr a b c d e] := fun _ _ _ _ _ => rfl
      have n1 : ∀ j, (pb = h1.next + j) = False := fun j => by simp; omega
      have n2 : ∀ j, (gb = h1.next + j) = False := fun j => by simp; omega
      rcases ho1 with ⟨hO, w5⟩ | ⟨hO, ob, rs, w5, hgo, nob, rw1⟩
      · have r1 : 1 * 24 ≤ room ∧ 1 ≤ maxLen := by unfold room maxLen; omega
        rw [hO, List.nil_append] at hst
        simp [y3, y4, w5, y7, y19, y20, w1, o1, o2, hfr, Nat.add_assoc, hz1, apK_some, r1]
        have e2 : ∀ q, q < h1.next → ∀ z, (q = h1.next + z) = False := fun q hq z => by simp; omega
        refine ⟨k - 1, by omega, _, _, i + 1, rfl, by omega, by simp [y3], by simp [y4], by simp [y19], by simp, .inr ⟨by rw [hst]; simp, h1.next + 51, [.slr pb 0 P.length 1 none], by rw [hst]; simp, by simp, by (simp <;> omega), ?_⟩, by simp [n2, hg1], by (simp <;> omega), ?_⟩
        · rw [hst]
          exact Rws.snoc (rs := []) (O := []) (ob := 0) (h := h1) (P := P) ⟨rfl, fun q x hx => by simp at hx⟩ (by omega) (fun q hq _ => by simp [e2 q hq]) (by (simp <;> omega)) (by simp [n1, hgp]) (by omega) (by (simp <;> omega))
        · repeat' first | exact hf1 | apply Heap.Fr.bump | apply Heap.Fr.set
          all_goals (simp <;> omega)
      · obtain ⟨q, hq⟩ : ∃ q, q = (pasF M f i).length := ⟨_, rfl⟩
        have hrl : rs.length = q * 1 := by rw [rw1.1, hq]; omega
        rw [← hq] at w5 hlen
        have n3 : ∀ j, (ob = h1.next + j) = False := fun j => by simp; omega
        have n4 : ∀ j, (h1.next + j = ob) = False := fun j => by simp; omega
        have happ : ∀ (t : Nat) (h : Heap) (z : D), appS t 31 1 24 h 1 [z] ob 0 q 1 none (some (.cells 31 rs)) = ((h.set ob none).alloc t (.cells 31 (rs ++ [z]))).map fun h => (.slr t 0 (q + 1) 1 none, h) := fun t h z =>
          appS_none hrl (by omega) (by unfold room; omega) (by unfold maxLen; omega)
        simp [y3, y4, w5, y7, y19, y20, w1, o1, o2, hfr, Nat.add_assoc, hz1, apK_some, n3, n4, hgo, happ]
        have hgo' : (gb = ob) = False := by
          simp; intro e; rw [e, hgo] at hg1; cases hg1
        have hpo : (pb = ob) = False := by
          simp; intro e; rw [e, hgo] at hgp; cases hgp
        have e2 : ∀ q, q < h1.next → ∀ z, (q = h1.next + z) = False := fun q hq z => by simp; omega
        refine ⟨k - 1, by omega, _, _, i + 1, rfl, by omega, by simp [y3], by simp [y4], by simp [y19], by simp, .inr ⟨by rw [hst]; simp, h1.next + 51, rs ++ [.slr pb 0 P.length 1 none], by rw [hst, List.length_append, ← hq]; simp, by simp, by (simp <;> omega), ?_⟩, by simp [n2, hgo', hg1], by (simp <;> omega), ?_⟩
        · rw [hst]
          exact rw1.snoc (P := P) (by omega) (fun q hq hqo => by simp [e2 q hq, hqo]) (by (simp <;> omega)) (by simp [n1, hpo, hgp]) (by omega) (by (simp <;> omega))
        · repeat' first | exact hf1 | apply Heap.Fr.bump | apply Heap.Fr.set
          all_goals (simp <;> omega)
    · have hv : ((f i : Int) != (i : Int)) = true := by simp; omega
      rw [if_neg hfi, List.append_nil] at hst
      simp [-bne_iff_ne, -bne_eq_false_iff_eq, k35l1, v3, v4', v19, v20, hi, a1, e1, hBl, hv, w1, D.cells, D.one]
      exact ⟨k - 1, by omega, _, _, i + 1, rfl, by omega, by simp [v3], by simp [v4], by simp [v19], by simp, by rw [hst]; simpa using ho.mono (un_trans (un_trans (un_bump _ 54) (un_bump _ 54)) (un_trans (un_bump _ 54) (un_bump _ 54))), by simp [hg], by (simp <;> omega), (((hf.bump _).bump _).bump _).bump _⟩
  · simp [k35l1, v19, v20, hi]
    exact ⟨_, _, i, rfl, by omega, by simp [v3], by simp [v4], by simp [v19], by simp [v20], by simpa using ho.mono (un_bump _ 54), by simp [hg], by (simp <;> omega), hf.bump _⟩
end Go.Proofs.YtppfjkebamegnaaDoor
/- Parts, by the program: the function. -/
namespace Go.Proofs.YtppfjkebamegnaaDoor
open Go Go.Em Go.Em.Net Go.Em.Tie
set_option maxRecDepth 100000
def partsD (O : List (List Int)) : D := .sl false (O.map intsD)
theorem frz_part {h : Heap} {n pb : Nat} {x : List Int} (hg : h.get pb = some (.cells 3 (x.map D.int))) : frz h (n + 2) (.slr pb 0 x.length 1 none) = some (intsD x, [pb]) := by
  rw [frz_slr, hg, frzS_cells, if_pos (by simp)]
  have e1 : ((x.map D.int).drop 0).take (x.length * 1) = x.map D.int := List.take_of_length_le (by simp)
  rw [e1, each_canon h n _ (ints_canonL x)]
  simp only [Option.map_some]
  rw [chunk_ints]
  rfl
theorem frz_prs {h : Heap} {n : Nat} : ∀ (O : List (List Int)) (rs : List D), rs.length = O.length → (∀ (q : Nat) (x : List Int), O[q]? = some x → ∃ pb, rs[q]? = some (.slr pb 0 x.length 1 none) ∧ h.get pb = some (.cells 3 (x.map D.int))) → ∃ ks, each (frz h (n + 2)) rs = some (O.map intsD, ks)
  | [], [], _, _ => ⟨[], by simp⟩
  | [], _ :: _, h, _ => by simp at h
  | _ :: _, [], h, _ => by simp at h
  | x :: O, r :: rs, hl, hx => by
    obtain ⟨ks, ih⟩ := frz_prs O rs (by simpa using hl) (fun q y hy => by simpa using hx (q + 1) y (by simpa using hy))
    obtain ⟨pb, h1, h2⟩ := hx 0 x rfl
    simp only [List.getElem?_cons_zero, Option.some.injEq] at h1
    subst h1
    refine ⟨[pb] ++ ks, ?_⟩
    rw [each_cons, frz_part h2, ih]
    rfl
theorem chunk_rows : ∀ l : List (List Int), chunk 1 l.length (l.map intsD) = l.map intsD
  | [] => rfl
  | x :: l => by
    have ih := chunk_rows l
    simp only [List.length_cons, List.map_cons, chunk]
    simp [ih, intsD]
theorem frz_out {d : D} {O : List (List Int)} {h : Heap} (o : IsOut d O h) : ∃ ks, frz h depth d = some (partsD O, ks) := by
  rcases o with ⟨rfl, rfl⟩ | ⟨h0, ob, rs, rfl, h2, h3, h4, h5⟩
  · exact ⟨[], rfl⟩
  · obtain ⟨ks, e⟩ := frz_prs (h := h) (n := 21) O rs h4 (fun q x hx => by obtain ⟨pb, a, b, _⟩ := h5 q x hx; exact ⟨pb, a, b⟩)
    refine ⟨ob :: ks, ?_⟩
    show frz h (23 + 1) _ = _
    rw [frz_slr, h2, frzS_cells, if_pos (by omega)]
    have e1 : (rs.drop 0).take (O.length * 1) = rs := List.take_of_length_le (by simp; omega)
    rw [e1, e]
    simp only [Option.map_some]
    have := chunk_rows O
    rw [this]
    rfl
/-- The parts. -/
def fTie (l : List Clm) : Nat → Nat := tieN (prsF (marksF l) l) (marksF l).length
def partsF (l : List Clm) : List (List Int) := pasF (marksF l) (fTie l) (marksF l).length
set_option maxHeartbeats 8000000 in
theorem parts_run (l : List Clm) {n : Nat} (hn : 3000 ≤ n) : pureCall (rc pg n) 35 [clsD l] = some (.ret (partsD (if chkF l = 0 then partsF l else []))) := by
  obtain ⟨m, rfl, e⟩ := body (pg := pg) (f := 35) (args := [clsD l]) (show 0 < n by omega) rfl rfl
  rw [e]
  have c1 := fun h => call_of (h := h) (pg := pg) (f := 29) rfl (cls_canon l) (@chk_run l m (by omega))
  simp only [clsD] at c1
  by_cases h0 : chkF l = 0
  · rw [if_pos h0]
    rw [h0] at c1
    obtain ⟨hl1, _, hl3⟩ := chk_ok h0
    have g := good_movs h0
    have hLl : (movsF (marksF l) 0 l).length ≤ 1000 := by
      have := movs_len (marksF l) l 0
      omega
    have c2 := fun h => call_of (h := h) (pg := pg) (f := 51) rfl (two_ok l) (@graph_run l h0 m (by omega))
    have t := @tied_run (marksF l) (movsF (marksF l) 0 l) hLl hl3 (fun x hx => ⟨(g.hin x hx).1, (g.hin x hx).2.1⟩) m (by omega)
    rw [rnd_tie] at t
    have c3 := fun h => call_of (h := h) (pg := pg) (f := 74) rfl (gr_canon (marksF l) (movsF (marksF l) 0 l)) t
    obtain ⟨M, hM⟩ : ∃ M, M = marksF l := ⟨_, rfl⟩
    obtain ⟨L, hL⟩ : ∃ L, L = movsF (marksF l) 0 l := ⟨_, rfl⟩
    simp only [clsD, eachD, grD, intsD, mosD] at c2 c3
    have o3 : ∀ (z : Bool) (l : List D), D.one (.sl z l) = true := fun _ _ => rfl
    simp [-beq_iff_eq, k35, Env.v_ini, clsD, c1, c2, c3, D.cells, o3, ev_loop]
    refine Res.endsAfter (lp_rule 200 (qPaI (marksF l) (movsF (marksF l) 0 l) (fTie l) 111) _ (pa_round (marksF l) (movsF (marksF l) 0 l) hl3 (fTie l) 111) (marksF l).length m _ (by omega) ⟨_, _, 0, rfl, by omega, by simp, by simp [fTie], by simp, by simp, .inl ⟨rfl, by simp⟩, by simp [intsD, mosD], by simp, ?_⟩) ?_
    · repeat' first | exact Heap.Fr.empty | apply Heap.Fr.bump | apply Heap.Fr.set
      all_goals (simp <;> omega)
    rintro x s ⟨rfl, x, h, i, rfl, hi, v3, v4, v19, v20, ho, hg, ngb, hf⟩
    have hiM : i = (marksF l).length := by omega
    subst hiM
    obtain ⟨d5, hd5⟩ : ∃ d, d = x.v 5 := ⟨_, rfl⟩
    rw [← hd5] at ho
    have ho2 : IsOut d5 (pasF (marksF l) (fTie l) (marksF l).length) ((h.bump 54)) := ho.mono (un_bump h 54)
    obtain ⟨ks, hz⟩ := frz_out ho2
    simp [← hd5, partsF]
    exact ⟨ks, hz⟩
  · have h0' : (chkF l != 0) = true := by simpa using h0
    rw [if_neg h0]
    simp [-bne_iff_ne, k35, Env.v_ini, clsD, c1, h0', partsD]
end Go.Proofs.YtppfjkebamegnaaDoor
