/- The library's Compact: what is kept. -/
import Derived.Test.YtmncdmpeeibgmaaGreatDoorQu1
import Derived.Test.YtmncdmpeeibgmaaGreatDoorTz
import Derived.Test.YtmncdmpeeibgmaaGreatDoorTz
import Derived.Test.YtmncdmpeeibgmaaGreatDoorWo1
namespace Go.Proofs.YtmncdmpeeibgmaaGreatDoor
open Go Go.Em
set_option maxRecDepth 100000
def dk (S : List Int) : Nat → List Int
  | 0 => []
  | j + 1 => dk S j ++ if j = 0 ∨ S.getD j 0 ≠ S.getD (j - 1) 0 then [S.getD j 0] else []
theorem dk_len (S : List Int) : ∀ j, (dk S j).length ≤ j
  | 0 => Nat.le_refl _
  | j + 1 => by
    have := dk_len S j
    rw [dk, List.length_append]
    split <;> simp <;> omega
theorem dk_all (S : List Int) : ∀ j, j ≤ S.length → (∀ t, 1 ≤ t → t < j → S.getD t 0 ≠ S.getD (t - 1) 0) → dk S j = S.take j
  | 0, _, _ => rfl
  | j + 1, hj, h => by
    have ih := dk_all S j (by omega) (fun t h1 h2 => h t h1 (by omega))
    rw [dk, ih, if_pos (Decidable.or_iff_not_imp_left.2 fun h0 => h j (by omega) (by omega)), List.take_add_one, List.getElem?_eq_getElem (by omega)]
    simp [List.getD, List.getElem?_eq_getElem (show j < S.length by omega)]
theorem dk_dup {S : List Int} {j : Nat} (h0 : j ≠ 0) (h : S.getD j 0 = S.getD (j - 1) 0) : dk S (j + 1) = dk S j := by
  rw [dk, if_neg (by simp [h0]; simpa using h), List.append_nil]
theorem dk_new {S : List Int} {j : Nat} (h : S.getD j 0 ≠ S.getD (j - 1) 0) : dk S (j + 1) = dk S j ++ [S.getD j 0] := by
  rw [dk, if_pos (.inr h)]
def cpL (S : List Int) (p : Nat) : List Int := dk S p ++ S.drop (dk S p).length
theorem cp_len {S : List Int} {p : Nat} (hp : p ≤ S.length) : (cpL S p).length = S.length := by
  have := dk_len S p
  unfold cpL; simp; omega
theorem cp_at {S : List Int} {p q : Nat} (h1 : (dk S p).length ≤ q) : (cpL S p)[q]? = S[q]? := by
  unfold cpL
  rw [List.getElem?_append_right h1, List.getElem?_drop]
  congr 1; omega
theorem cp_put {S : List Int} {p : Nat} (hp : p < S.length) (hlt : (dk S p).length < p) (h : S.getD p 0 ≠ S.getD (p - 1) 0) : (cpL S p).set (dk S p).length (S.getD p 0) = cpL S (p + 1) := by
  unfold cpL
  rw [dk_new h, List.set_append_right _ _ (Nat.le_refl _), Nat.sub_self, List.length_append, List.length_singleton, List.append_assoc]
  congr 1
  rw [List.drop_eq_getElem_cons (show (dk S p).length < S.length by omega)]
  rfl
theorem cp_same {S : List Int} {p : Nat} (h0 : p ≠ 0) (h : S.getD p 0 = S.getD (p - 1) 0) : cpL S (p + 1) = cpL S p := by
  unfold cpL; rw [dk_dup h0 h]
end Go.Proofs.YtmncdmpeeibgmaaGreatDoor
/- The library's Compact, by the program; rising. -/
namespace Go.Proofs.YtmncdmpeeibgmaaGreatDoor
open Go Go.Em
set_option maxRecDepth 100000
set_option linter.unusedSectionVars false
variable [Tl]
theorem toL (S : List Int) : S.toArray.toList = S := rfl
theorem dlL_get {S : List Int} {i : Nat} {v : Int} (h : S[i]? = some v) : (dl S.toArray)[i]? = some (D.int v) := by
  have hi : i < S.length := (List.getElem?_eq_some_iff.1 h).1
  unfold dl
  rw [List.getElem?_append_left (by simpa using hi), List.getElem?_map, toL, h]; rfl
theorem dlL_le {S : List Int} {C : List D} {N : Nat} (hC : C = dl S.toArray) (hN : S.length = N) : (∀ i, i ≤ N → i ≤ C.length) ∧ ∀ i, i < N → i < C.length := by
  have := dl_le hC
  rw [show S.toArray.size = N from hN] at this
  exact this
theorem dlL_put {S : List Int} {m : Nat} (hm : m < S.length) (v : Int) : (dl S.toArray).take m ++ D.int v :: (dl S.toArray).drop (m + 1) = dl (S.set m v).toArray := by
  rw [dl_put (d := S.toArray) hm]
  simp
def qCpI (S : List Int) (i0 kb N : Nat) (c0 : Option Nat) (cap4 : Option Nat) (h0 : Heap) (k : Nat) (s : St) : Prop := ∃ (x : Env 61) (h : Heap) (j : Nat), s = ⟨x.l, h, []⟩ ∧ i0 + j + k = N ∧ 1 ≤ j ∧ x.v 0 = .slr kb 0 N 1 c0 ∧ x.v 3 = D.int ((dk S (i0 + j)).length : Nat) ∧ x.v 4 = .slr kb i0 (N - i0) 1 cap4 ∧ x.v 5 = D.int j ∧ (dk S (i0 + j)).length < i0 + j ∧ SD kb (cpL S (i0 + j)).toArray h0 h
def qCpQ (S : List Int) (kb N : Nat) (c0 : Option Nat) (h0 : Heap) (x : Ex) (s : St) : Prop := x = .exit 2 ∧ ∃ (x : Env 61) (h : Heap), s = ⟨x.l, h, []⟩ ∧ x.v 0 = .slr kb 0 N 1 c0 ∧ x.v 3 = D.int ((dk S N).length : Nat) ∧ SD kb (cpL S N).toArray h0 h
set_option maxHeartbeats 8000000 in
theorem ci_round (S : List Int) (i0 kb N : Nat) (c0 : Option Nat) (hS : S.length = N) (hN : N ≤ 1000000) (cap4 : Option Nat) (h0 : Heap) : ∀ n, 2 ≤ n → ∀ k s, qCpI S i0 kb N c0 cap4 h0 k s → Res (k29l0.ev ⟨pg, 61, none⟩ (rc pg n) s) (Rnd (qCpI S i0 kb N c0 cap4 h0) (qCpQ S kb N c0 h0) k) := by
  rintro n hn k s ⟨x, h, j, rfl, hk, hj1, v0, v3, v4, v5, hlt, sd⟩
  have g := sd.g
  by_cases hc : j < N - i0
  · obtain ⟨p, hp⟩ : ∃ p, p = i0 + j := ⟨_, rfl⟩
    rw [← hp] at v3 hlt sd g hk
    obtain ⟨j1, hj1'⟩ : ∃ j1, j1 = j - 1 := ⟨_, rfl⟩
    have w1 : IntKind.i64.wrap ((j : Int) - 1) = (j1 : Int) := wn (by omega) (by omega)
    have w2 : IntKind.i64.wrap ((j : Int) + 1) = ((j + 1 : Nat) : Int) := wn (by omega) (by omega)
    obtain ⟨m, hm⟩ : ∃ m, m = (dk S p).length := ⟨_, rfl⟩
    rw [← hm] at v3 hlt
    have w3 : IntKind.i64.wrap ((m : Int) + 1) = ((m + 1 : Nat) : Int) := wn (by omega) (by omega)
    have hcl : (cpL S p).length = N := by rw [cp_len (by omega), hS]
    have a1 : (cpL S p)[p]? = some (S.getD p 0) := by rw [cp_at (by omega), List.getElem?_eq_getElem (by omega)]; simp [List.getD, List.getElem?_eq_getElem (show p < S.length by omega)]
    have a2 : (cpL S p)[p - 1]? = some (S.getD (p - 1) 0) := by rw [cp_at (by omega), List.getElem?_eq_getElem (by omega)]; simp [List.getD, List.getElem?_eq_getElem (show p - 1 < S.length by omega)]
    obtain ⟨va, hva⟩ : ∃ v, v = S.getD p 0 := ⟨_, rfl⟩
    obtain ⟨vb, hvb⟩ : ∃ v, v = S.getD (p - 1) 0 := ⟨_, rfl⟩
    rw [← hva] at a1
    rw [← hvb] at a2
    obtain ⟨C, hC⟩ : ∃ C, C = dl (cpL S p).toArray := ⟨_, rfl⟩
    have hl := dlL_le hC hcl
    have f1 : C[i0 + j]? = some (D.int va) := by rw [← hp, hC]; exact dlL_get a1
    have f2 : C[i0 + j1]? = some (D.int vb) := by rw [show i0 + j1 = p - 1 by omega, hC]; exact dlL_get a2
    have gC : h.get kb = some (.cells 3 C) := by rw [hC]; exact g
    have f1' : C[i0 + j]?.getD D.junk = D.int va := by rw [f1]; rfl
    have f2' : C[i0 + j1]?.getD D.junk = D.int vb := by rw [f2]; rfl
    have e1 : ∀ h' : i0 + j < C.length, C[i0 + j]'h' = D.int va := fun h' => by have := List.getElem?_eq_getElem h'; rw [f1] at this; exact (Option.some.inj this).symm
    have e2 : ∀ h' : i0 + j1 < C.length, C[i0 + j1]'h' = D.int vb := fun h' => by have := List.getElem?_eq_getElem h'; rw [f2] at this; exact (Option.some.inj this).symm
    have l1 : i0 + j < N := by omega
    have l2 : i0 + j1 < N := by omega
    have l3 : i0 + j + 1 ≤ N := by omega
    have l4 : i0 + j1 + 1 ≤ N := by omega
    have l5 : m < N := by omega
    have l6 : m + 1 ≤ N := by omega
    have l7 : j1 < N - i0 := by omega
    have hcI : (j : Int) < ((N - i0 : Nat) : Int) := by omega
    by_cases hv : va = vb
    · have hb : (va != vb) = false := by simp [hv]
      have hsame : cpL S (p + 1) = cpL S p := cp_same (by omega) (by rw [← hva, ← hvb, hv])
      have hdk : (dk S (p + 1)).length = m := by rw [dk_dup (by omega) (by rw [← hva, ← hvb, hv]), hm]
      simp [-bne_iff_ne, -bne_eq_false_iff_eq, k29l0, v4, v5, hc, w1, w2, hb, gC, hl, e1, e2, l1, l2, l3, l4, l7]
      exact ⟨k - 1, by omega, _, _, j + 1, rfl, by omega, by omega, by simp [v0], by rw [← Nat.add_assoc, ← hp, hdk]; simp [v3], by simp [v4], by simp, by rw [← Nat.add_assoc, ← hp, hdk]; omega, by rw [← Nat.add_assoc, ← hp, hsame]; repeat' first | exact sd | refine SD.bump ?_ _⟩
    · have hb : (va != vb) = true := by simp [hv]
      have hput := cp_put (S := S) (p := p) (by omega) (by omega) (by rw [← hva, ← hvb]; exact hv)
      rw [← hm, ← hva] at hput
      have hdk : (dk S (p + 1)).length = m + 1 := by rw [dk_new (by rw [← hva, ← hvb]; exact hv), List.length_append, ← hm]; rfl
      obtain ⟨C1, hC1⟩ : ∃ C1, C1 = dl (cpL S (p + 1)).toArray := ⟨_, rfl⟩
      have p1 : C.take m ++ D.int va :: C.drop (m + 1) = C1 := by
        rw [hC1, ← hput, hC]; exact dlL_put (by omega) va
      simp [-bne_iff_ne, -bne_eq_false_iff_eq, k29l0, v0, v3, v4, v5, hc, w1, w2, w3, hb, D.cells, D.one, gC, hl, e1, e2, l1, l2, l3, l4, l5, l6, l7, p1]
      exact ⟨k - 1, by omega, _, _, j + 1, rfl, by omega, by omega, by simp [v0], by rw [← Nat.add_assoc, ← hp, hdk]; simp, by simp [v4], by simp, by rw [← Nat.add_assoc, ← hp, hdk]; omega, by rw [← Nat.add_assoc, ← hp]; repeat' first | exact sd | refine SD.bump ?_ _ | refine SD.setL (d := (cpL S p).toArray) (d' := (cpL S (p + 1)).toArray) ?_ hC1⟩
  · simp [k29l0, v4, v5, hc]
    have hpN : i0 + j = N := by omega
    rw [hpN] at v3 sd
    exact ⟨rfl, _, _, rfl, by simp [v0], by simp [v3], sd.bump _⟩
theorem sl_lo {kb N i len : Nat} {cap : Option Nat} (h1 : i < N) : sliceR kb 0 1 cap (i : Int) (N : Int) none (upTo cap N 0 1 len) = some (.slr kb i (N - i) 1 (cap.map (· - i))) := by
  unfold sliceR
  have e2 : (decide (0 ≤ (i : Int)) && decide ((i : Int) ≤ N) && upTo cap N 0 1 len N && mxOk N (upTo cap N 0 1 len) none) = true := by
    unfold upTo mxOk; simp; omega
  rw [if_pos e2]
  simp [mxCap]
  omega
theorem sl_hi {kb N m len : Nat} {cap : Option Nat} (h1 : m ≤ N) : sliceR kb 0 1 cap 0 (m : Int) none (upTo cap N 0 1 len) = some (.slr kb 0 m 1 cap) := by
  unfold sliceR
  have e2 : (decide ((0 : Int) ≤ 0) && decide ((0 : Int) ≤ m) && upTo cap N 0 1 len m && mxOk m (upTo cap N 0 1 len) none) = true := by
    unfold upTo mxOk; simp; omega
  rw [if_pos e2]
  cases cap <;> simp [mxCap]
end Go.Proofs.YtmncdmpeeibgmaaGreatDoor
/- The library's Compact, by the program: the outer loop; the function; rising. -/
namespace Go.Proofs.YtmncdmpeeibgmaaGreatDoor
open Go Go.Em
set_option maxRecDepth 100000
set_option linter.unusedSectionVars false
variable [Tl]
theorem zer_rep (n : Nat) : zerosD [.int .i64 0] 1 n = List.replicate n (D.int 0) := by
  unfold zerosD
  rw [Nat.mul_one]
  have : ∀ k : Nat, (fun i : Nat => D.val (([Value.int .i64 0] : List Value).getD (i % 1) undef)) k = D.int 0 := fun k => by simp [Nat.mod_one]
  rw [show (fun i : Nat => D.val (([Value.int .i64 0] : List Value).getD (i % 1) undef)) = fun _ => D.int 0 from funext this, List.map_const', List.length_range]
theorem dk_add (S : List Int) (p : Nat) : ∀ j, (dk S (p + j)).length ≤ (dk S p).length + j
  | 0 => Nat.le_refl _
  | j + 1 => by
    have := dk_add S p j
    rw [← Nat.add_assoc, dk, List.length_append]
    split <;> simp <;> omega
def qCpO (S : List Int) (kb N : Nat) (c0 : Option Nat) (h0 : Heap) (k : Nat) (s : St) : Prop := ∃ (x : Env 61) (h : Heap) (i : Nat), s = ⟨x.l, h, []⟩ ∧ i + k = N ∧ 1 ≤ i ∧ x.v 0 = .slr kb 0 N 1 c0 ∧ x.v 3 = D.int i ∧ (∀ t, 1 ≤ t → t < i → S.getD t 0 ≠ S.getD (t - 1) 0) ∧ SD kb S.toArray h0 h
def qCpF (S : List Int) (kb N : Nat) (h0 h : Heap) : Prop := ∃ Z : List Int, (dk S N ++ Z).length = N ∧ SD kb (dk S N ++ Z).toArray h0 h
def qCpR (S : List Int) (kb N : Nat) (c0 : Option Nat) (h0 : Heap) (x : Ex) (s : St) : Prop := ∃ (y : Env 61) (h : Heap), s = ⟨y.l, h, []⟩ ∧ qCpF S kb N h0 h ∧ ((x = .exit 0 ∧ y.v 0 = .slr kb 0 N 1 c0 ∧ (dk S N).length = N) ∨ (x = .ret ∧ y.v 2 = .slr kb 0 (dk S N).length 1 c0))
set_option maxHeartbeats 16000000 in
theorem co_round (S : List Int) (kb N : Nat) (c0 : Option Nat) (hS : S.length = N) (hN : N ≤ 1000000) (h0 : Heap) : ∀ n, N + 20 ≤ n → ∀ k s, qCpO S kb N c0 h0 k s → Res (k29l1.ev ⟨pg, 61, none⟩ (rc pg n) s) (Rnd (qCpO S kb N c0 h0) (qCpR S kb N c0 h0) k) := by
  rintro n hn k s ⟨x, h, i, rfl, hk, hi1, v0, v3, hnd, sd⟩
  have g := sd.g
  by_cases hc : i < N
  · obtain ⟨u, hu⟩ : ∃ u, u = i - 1 := ⟨_, rfl⟩
    have w1 : IntKind.i64.wrap ((i : Int) - 1) = (u : Int) := wn (by omega) (by omega)
    have w2 : IntKind.i64.wrap ((i : Int) + 1) = ((i + 1 : Nat) : Int) := wn (by omega) (by omega)
    obtain ⟨va, hva⟩ : ∃ v, v = S.getD i 0 := ⟨_, rfl⟩
    obtain ⟨vb, hvb⟩ : ∃ v, v = S.getD (i - 1) 0 := ⟨_, rfl⟩
    obtain ⟨C, hC⟩ : ∃ C, C = dl S.toArray := ⟨_, rfl⟩
    have hl := dlL_le hC hS
    have f1 : C[i]? = some (D.int va) := by rw [hC, hva]; exact dlL_get (by rw [List.getElem?_eq_getElem (by omega)]; simp [List.getD, List.getElem?_eq_getElem (show i < S.length by omega)])
    have f2 : C[u]? = some (D.int vb) := by rw [hC, hvb, hu]; exact dlL_get (by rw [List.getElem?_eq_getElem (by omega)]; simp [List.getD, List.getElem?_eq_getElem (show i - 1 < S.length by omega)])
    have gC : h.get kb = some (.cells 3 C) := by rw [hC]; exact g
    have f1' : C[i]?.getD D.junk = D.int va := by rw [f1]; rfl
    have f2' : C[u]?.getD D.junk = D.int vb := by rw [f2]; rfl
    have e1 : ∀ h' : i < C.length, C[i]'h' = D.int va := fun h' => by have := List.getElem?_eq_getElem h'; rw [f1] at this; exact (Option.some.inj this).symm
    have e2 : ∀ h' : u < C.length, C[u]'h' = D.int vb := fun h' => by have := List.getElem?_eq_getElem h'; rw [f2] at this; exact (Option.some.inj this).symm
    have l2 : u < N := by omega
    have l3 : i + 1 ≤ N := by omega
    have l4 : u + 1 ≤ N := by omega
    by_cases hv : va = vb
    · have hb : (va == vb) = true := by simp [hv]
      have s1 := sl_lo (kb := kb) (i := i) (cap := c0) (len := C.length) hc
      have hdk0 := dk_all S i (by omega) hnd
      have hdl0 : (dk S i).length = i := by rw [hdk0, List.length_take]; omega
      have hdk1 : dk S (i + 1) = dk S i := dk_dup (by omega) (by rw [← hva, ← hvb, hv])
      have hcp : cpL S (i + 1) = S := by unfold cpL; rw [hdk1, hdl0, hdk0, List.take_append_drop]
      simp [-beq_iff_eq, -beq_eq_false_iff_ne, k29l1, v0, v3, hc, w1, hb, gC, hl, e1, e2, l2, l3, l4, s1, ev_loop]
      refine Res.qe (lp_rule 2 (qCpI S i kb N c0 (c0.map (· - i)) h0) _ (ci_round S i kb N c0 hS hN (c0.map (· - i)) h0) (N - i - 1) n _ (by omega) ⟨_, _, 1, rfl, by omega, by omega, by simp [v0], by rw [hdk1, hdl0]; simp [v3], by simp, by simp, by rw [hdk1, hdl0]; omega, by rw [hcp]; repeat' first | exact sd | refine SD.bump ?_ _⟩) ?_
      rintro x1 s1 ⟨rfl, y, h1, rfl, y0, y3, sd1⟩
      have hm1 : (dk S N).length < N := by
        have := dk_add S (i + 1) (N - (i + 1))
        rw [show i + 1 + (N - (i + 1)) = N by omega, hdk1, hdl0] at this
        omega
      have g1 := sd1.g
      obtain ⟨m, hm⟩ : ∃ m, m = (dk S N).length := ⟨_, rfl⟩
      rw [← hm] at y3 hm1
      obtain ⟨C', hC'⟩ : ∃ C, C = dl (cpL S N).toArray := ⟨_, rfl⟩
      have hl' := dlL_le hC' (show (cpL S N).length = N by rw [cp_len (by omega), hS])
      have gC' : h1.get kb = some (.cells 3 C') := by rw [hC']; exact g1
      have t1 := sl_lo (kb := kb) (cap := c0) (len := C'.length) hm1
      have t3 : ¬ (N - m = 0) := by omega
      have t4 : m + (N - m) = N := by omega
      have t5 : C'.drop N = Tl.z := by rw [hC', dl, toL, List.drop_append, List.drop_of_length_le (by rw [List.length_map, cp_len (by omega)]; omega), List.length_map, cp_len (by omega), hS, Nat.sub_self]; rfl
      obtain ⟨Z, hZ⟩ : ∃ Z, Z = List.replicate (N - m) (0 : Int) := ⟨_, rfl⟩
      obtain ⟨C2, hC2⟩ : ∃ C2, C2 = dl (dk S N ++ Z).toArray := ⟨_, rfl⟩
      have hZl : (dk S N ++ Z).length = N := by rw [List.length_append, ← hm, hZ, List.length_replicate]; omega
      have t6 : C'.take m ++ (zerosD [.int .i64 0] 1 (N - m) ++ Tl.z) = C2 := by
        rw [hC2, dl, toL, List.map_append, hZ, List.map_replicate, zer_rep, hC', dl, toL, cpL, List.map_append, hm, List.append_assoc, List.append_assoc]
        congr 1
        rw [List.take_append_of_le_length (by simp), List.take_of_length_le (by simp)]
      have t2 := sl_hi (kb := kb) (m := m) (cap := c0) (len := C2.length) (Nat.le_of_lt hm1)
      simp [y0, y3, gC', hl', t1, t2, t3, t4, t5, t6]
      exact ⟨_, _, rfl, ⟨Z, hZl, by repeat' first | exact sd1 | refine SD.bump ?_ _ | refine SD.setL (d := (cpL S N).toArray) (d' := (dk S N ++ Z).toArray) ?_ hC2⟩, .inr ⟨rfl, by simp [hm]⟩⟩
    · have hb : (va == vb) = false := by simp [hv]
      simp [-beq_iff_eq, -beq_eq_false_iff_ne, k29l1, v0, v3, hc, w1, w2, hb, gC, hl, e1, e2, l2, l3, l4]
      exact ⟨k - 1, by omega, _, _, i + 1, rfl, by omega, by omega, by simp [v0], by simp, fun t h1 h2 => by
        by_cases ht : t = i
        · rw [ht, ← hva, ← hvb]; exact hv
        · exact hnd t h1 (by omega), by repeat' first | exact sd | refine SD.bump ?_ _⟩
  · have hiN : i = N := by omega
    subst hiN
    have hdk0 := dk_all S i (by omega) hnd
    have hall : dk S i = S := by rw [hdk0, List.take_of_length_le (by omega)]
    simp [k29l1, v0, v3]
    exact ⟨_, _, rfl, ⟨[], by rw [hall]; simpa using hS, by rw [hall, List.append_nil]; exact sd.bump _⟩, .inl ⟨rfl, by simp [v0], by rw [hall]; exact hS⟩⟩
end Go.Proofs.YtmncdmpeeibgmaaGreatDoor
/- The library's Compact as a function; rising numbers. -/
namespace Go.Proofs.YtmncdmpeeibgmaaGreatDoor
open Go Go.Em
set_option maxRecDepth 100000
set_option linter.unusedSectionVars false
variable [Tl]
set_option maxHeartbeats 8000000 in
theorem compact_sh {kb : Nat} {S : List Int} {h : Heap} (hg : h.get kb = some (.cells 3 (dl S.toArray))) (hk : kb < h.next) (hf : h.Fr) {N : Nat} (hS : S.length = N) (hN : N ≤ 1000000) {c0 : Option Nat} {n : Nat} (hn : 2 * N + 40 ≤ n) :
    ∃ h', (rc pg n).fn 29 [.slr kb 0 N 1 c0] h = some (.ret (.slr kb 0 (dk S N).length 1 c0), h') ∧ qCpF S kb N h h' := by
  obtain ⟨m, rfl, e⟩ := fn_body (pg := pg) (f := 29) (args := [.slr kb 0 N 1 c0]) (h := h) (show 0 < n by omega) rfl rfl
  rw [e]
  have hg' : h.get kb = some (.cells 3 (dl S.toArray)) := hg
  have sd := SD.refl hg' hk hf
  by_cases h2 : N < 2
  · have h2' : (N : Int) < 2 := by omega
    have hall : dk S N = S := by rw [dk_all S N (by omega) (fun t h1 h3 => by omega), List.take_of_length_le (by omega)]
    simp [k29, Env.v_ini, h2']
    exact ⟨_, ⟨by rw [hall]; exact hS.symm, rfl⟩, [], by rw [hall]; simpa using hS, by rw [hall, List.append_nil]; repeat' first | exact sd | refine SD.bump ?_ _⟩
  · have h2' : ¬ (N : Int) < 2 := by omega
    simp [k29, Env.v_ini, h2', ev_loop]
    refine Res.fin3 (lp_rule (N + 20) (qCpO S kb N c0 h) _ (co_round S kb N c0 hS hN h) (N - 1) m _ (by omega) ⟨_, _, 1, rfl, by omega, by omega, by simp [Env.v_ini], by simp, fun t h1 h3 => by omega, by repeat' first | exact sd | refine SD.bump ?_ _⟩) ?_
    rintro x s ⟨y, h', rfl, ⟨Z, hZ, sdZ⟩, (⟨rfl, y0, hl⟩ | ⟨rfl, y2⟩)⟩
    · simp [y0]
      exact ⟨_, ⟨hl.symm, rfl⟩, Z, hZ, by repeat' first | exact sdZ | refine SD.bump ?_ _⟩
    · simp [y2]
      exact ⟨Z, hZ, by repeat' first | exact sdZ | refine SD.bump ?_ _⟩
def rsL (l : List Int) : List Int := dk (srtL l) l.length
theorem srt_len (l : List Int) : (srtL l).length = l.length := by unfold srtL; rw [List.length_mergeSort]
set_option maxHeartbeats 8000000 in
theorem rising_sh {kb : Nat} {l : List Int} {h : Heap} (hg : h.get kb = some (.cells 3 (dl l.toArray))) (hk : kb < h.next) (hf : h.Fr) {N : Nat} (hS : l.length = N) (hN : N ≤ 1000000) {c0 : Option Nat} {n : Nat} (hn : (N + 1) * (3 * N + 201) + 60 ≤ n) :
    ∃ h' Z, (rc pg n).fn 57 [.slr kb 0 N 1 c0] h = some (.ret (.slr kb 0 (rsL l).length 1 c0), h') ∧ (rsL l ++ Z).length = N ∧ SD kb (rsL l ++ Z).toArray h h' := by
  obtain ⟨m, rfl, e⟩ := fn_body (pg := pg) (f := 57) (args := [.slr kb 0 N 1 c0]) (h := h) (show 0 < n by omega) rfl rfl
  rw [e]
  have hF : 3 * N + 201 ≤ (N + 1) * (3 * N + 201) := Nat.le_mul_of_pos_left _ (by omega)
  have hg' : h.get kb = some (.cells 3 (dl l.toArray)) := hg
  have sd := SD.refl hg' hk hf
  obtain ⟨H1, hH1⟩ : ∃ H, H = (h.bump 7).bump 7 := ⟨_, rfl⟩
  have sd1 : SD kb l.toArray h H1 := hH1 ▸ (sd.bump 7).bump 7
  obtain ⟨h1, r1, sd2⟩ := sort_sh (l := l) sd1.g (by have := sd1.n; have := sd1.k; omega) sd1.fr hS hN c0 (n := m) (by generalize (N + 1) * (3 * N + 201) = F at *; omega)
  have s1 := call_sh (pg := pg) (f := 28) rfl r1
  have sd3 := sd1.trans sd2
  obtain ⟨H2, hH2⟩ : ∃ H, H = h1.bump 7 := ⟨_, rfl⟩
  have sd4 : SD kb (srtL l).toArray h H2 := hH2 ▸ sd3.bump 7
  obtain ⟨h2, r2, Z, hZ, sd5⟩ := compact_sh (S := srtL l) (c0 := c0) sd4.g (by have := sd4.n; have := sd4.k; omega) sd4.fr (by rw [srt_len]; exact hS) hN (n := m) (by generalize (N + 1) * (3 * N + 201) = F at *; omega)
  have s2 := call_sh (pg := pg) (f := 29) rfl r2
  have er : dk (srtL l) N = rsL l := by unfold rsL; rw [hS]
  rw [er] at s2 hZ sd5
  have sd6 := sd4.trans sd5
  simp [k57, Env.v_ini, ← hH1, s1, ← hH2, s2]
  exact ⟨Z, by simpa using hZ, by repeat' first | exact sd6 | refine SD.bump ?_ _⟩
abbrev tl0 : Tl := ⟨[]⟩
theorem dl0 (S : List Int) : @dl tl0 S.toArray = S.map D.int := List.append_nil _
end Go.Proofs.YtmncdmpeeibgmaaGreatDoor
/- The sources of claims: by the document, by the program. -/
namespace Go.Proofs.YtmncdmpeeibgmaaGreatDoor
open Go Go.Em
set_option maxRecDepth 100000
def srcF (l : List Clm) : List Int := l.foldl (fun m c => insF m c.by_) []
theorem src_snoc (l : List Clm) (c : Clm) : srcF (l ++ [c]) = insF (srcF l) c.by_ := by unfold srcF; rw [List.foldl_append]; rfl
theorem src_fold_rise : ∀ (l : List Clm) (m : List Int), Rise m → Rise (l.foldl (fun m c => insF m c.by_) m)
  | [], _, h => h
  | c :: l, m, h => src_fold_rise l _ (insF_rise h _)
theorem src_rise (l : List Clm) : Rise (srcF l) := src_fold_rise l [] List.Pairwise.nil
theorem src_fold_mem (x : Int) : ∀ (l : List Clm) (m : List Int), x ∈ l.foldl (fun m c => insF m c.by_) m ↔ x ∈ m ∨ ∃ c ∈ l, x = c.by_
  | [], m => by simp
  | c :: l, m => by
    rw [List.foldl_cons, src_fold_mem x l, insF_mem]
    simp [or_assoc]
theorem src_mem (l : List Clm) (x : Int) : x ∈ srcF l ↔ ∃ c ∈ l, x = c.by_ := by
  unfold srcF; rw [src_fold_mem]; simp
theorem src_fold_len : ∀ (l : List Clm) (m : List Int), (l.foldl (fun m c => insF m c.by_) m).length ≤ m.length + l.length
  | [], _ => Nat.le_refl _
  | c :: l, m => by
    have := src_fold_len l (insF m c.by_)
    have := insF_len m c.by_
    rw [List.foldl_cons, List.length_cons]; omega
theorem src_len (l : List Clm) : (srcF l).length ≤ l.length := by have := src_fold_len l []; simpa [srcF] using this
def qRsI (l : List Clm) (k : Nat) (s : St) : Prop := ∃ (x : Env 18) (h : Heap) (i : Nat), s = ⟨x.l, h, []⟩ ∧ i + k = l.length ∧ x.v 6 = clsD l ∧ x.v 7 = D.int l.length ∧ x.v 8 = D.int i ∧ IsInts (x.v 3) (srcF (l.take i)) ∧ h.Fr
set_option maxHeartbeats 2000000 in
theorem rsrc_round (l : List Clm) (hlen : l.length ≤ 1000) : ∀ n, 2010 ≤ n → ∀ k s, qRsI l k s → Res (k60l0.ev ⟨pg, 18, none⟩ (rc pg n) s) (Rnd (qRsI l) (fun x s => x = .exit 0 ∧ qRsI l 0 s) k) := by
  rintro n hn k s ⟨x, h, i, rfl, hik, v6, v7, v8, v3, hf⟩
  simp only [clsD] at v6
  by_cases hi : i < l.length
  · obtain ⟨c, hc⟩ : ∃ c, l[i] = c := ⟨_, rfl⟩
    have htk : l.take (i + 1) = l.take i ++ [c] := by rw [List.take_add_one, List.getElem?_eq_getElem hi, hc]; rfl
    have w1 : IntKind.i64.wrap ((i : Int) + 1) = (i : Int) + 1 := wrap_i64 (by omega) (by omega)
    have hfr : ∀ j, h.raw (h.next + j) = none := fun j => hf _ (by omega)
    have s62 : pg.sh 31 = false := rfl
    obtain ⟨M, hM⟩ : ∃ M, M = srcF (l.take i) := ⟨_, rfl⟩
    rw [← hM] at v3
    have hMr : Rise M := by rw [hM]; exact src_rise _
    have hMl : M.length ≤ 1000 := by
      have := src_len (l.take i)
      rw [← hM, List.length_take] at this; omega
    have r1 := @with_run M hMr (by omega) c.by_ n (by omega)
    have hsn : srcF (l.take (i + 1)) = insF M c.by_ := by rw [htk, src_snoc, ← hM]
    have fz := v3.frz
    obtain ⟨d3, hd3⟩ : ∃ d, x.v 3 = d := ⟨_, rfl⟩
    rw [hd3] at fz
    have z1 : ∀ h, call pg (rc pg n) 31 [d3, D.int c.by_] h = some (.ret (intsD (insF M c.by_)), h) := fun h => call_frz s62 (fz c.by_ h) r1
    simp only [intsD] at z1
    simp [k60l0, v6, v7, v8, hd3, hi, hc, clD, clC, D.cells, D.one, hfr, Nat.add_assoc, w1, z1]
    refine ⟨k - 1, by omega, _, _, i + 1, rfl, by omega, by simp [v6, clsD], by simp [v7], by simp, .inl (by simp [hsn, intsD]), ?_⟩
    repeat' first | exact hf | apply Heap.Fr.bump | apply Heap.Fr.set
    all_goals (simp <;> omega)
  · simp [k60l0, v7, v8, hi]
    exact ⟨_, _, i, rfl, by omega, by simp [v6, clsD], by simp [v7], by simp [v8], by simpa using v3, hf.bump _⟩
theorem rsrc_run (l : List Clm) (hlen : l.length ≤ 1000) {n : Nat} (hn : l.length + 2015 ≤ n) : pureCall (rc pg n) 60 [clsD l] = some (.ret (intsD (srcF l))) := by
  obtain ⟨m, rfl, e⟩ := body (pg := pg) (f := 60) (args := [clsD l]) (show 0 < n by omega) rfl rfl
  rw [e]
  simp [k60, Env.v_ini, clsD, ev_loop]
  refine Res.endsAfter (lp_rule 2010 (qRsI l) _ (rsrc_round l hlen) l.length m _ (by omega) ⟨_, _, 0, rfl, by omega, by simp [clsD], by simp, by simp, .inr ⟨by simp [srcF], by simp⟩, ?_⟩) ?_
  · repeat' first | exact Heap.Fr.empty | apply Heap.Fr.bump | apply Heap.Fr.set
  · rintro x s ⟨rfl, x, h, i, rfl, hi, v6, v7, v8, v3, hf⟩
    have hil : i = l.length := by omega
    subst hil
    rw [List.take_length] at v3
    rcases v3 with v3 | ⟨h1, v3⟩
    · simp only [intsD] at v3
      have hcan := fun h n => each_canon h n _ (ints_canonL (srcF l))
      simp [v3, hcan, intsD]
    · simp [v3, h1, intsD]
theorem rsources_run (l : List Clm) {n : Nat} (hn : 4000 ≤ n) : pureCall (rc pg n) 30 [clsD l] = some (.ret (intsD (if chkF l = 0 then srcF l else []))) := by
  obtain ⟨m, rfl, e⟩ := body (pg := pg) (f := 30) (args := [clsD l]) (show 0 < n by omega) rfl rfl
  rw [e]
  have c1 := fun h => call_of (h := h) (pg := pg) (f := 25) rfl (cls_canon l) (@rchk_run l m (by omega))
  simp only [clsD] at c1
  by_cases h0 : chkF l = 0
  · rw [if_pos h0]
    rw [h0] at c1
    obtain ⟨hl, _, _⟩ := chk_ok h0
    have c2 := fun h => call_of (h := h) (pg := pg) (f := 60) rfl (cls_canon l) (@rsrc_run l (by omega) m (by omega))
    simp only [clsD, intsD] at c2
    have hcan := fun h n => each_canon h n _ (ints_canonL (srcF l))
    simp [k30, Env.v_ini, clsD, c1, c2, intsD, hcan]
  · have h0' : (chkF l != 0) = true := by simpa using h0
    rw [if_neg h0]
    simp [-bne_iff_ne, k30, Env.v_ini, clsD, c1, h0', intsD]
end Go.Proofs.YtmncdmpeeibgmaaGreatDoor
/- Rising numbers are the sources. -/
namespace Go.Proofs.YtmncdmpeeibgmaaGreatDoor
open Go Go.Em
set_option maxRecDepth 100000
attribute [local instance] tl0
theorem rise_one : ∀ {a b : List Int}, Rise a → Rise b → (∀ x, x ∈ a ↔ x ∈ b) → a = b
  | [], [], _, _, _ => rfl
  | [], y :: b, _, _, h => by have := (h y).2 List.mem_cons_self; cases this
  | x :: a, [], _, _, h => by have := (h x).1 List.mem_cons_self; cases this
  | x :: a, y :: b, ha, hb, h => by
    unfold Rise at ha hb
    rw [List.pairwise_cons] at ha hb
    have hxy : x = y := by
      rcases List.mem_cons.1 ((h x).1 List.mem_cons_self) with e | e
      · exact e
      · rcases List.mem_cons.1 ((h y).2 List.mem_cons_self) with e' | e'
        · exact e'.symm
        · have := hb.1 x e; have := ha.1 y e'; omega
    subst hxy
    congr 1
    refine rise_one ha.2 hb.2 fun z => ?_
    constructor
    · intro hz
      rcases List.mem_cons.1 ((h z).1 (List.mem_cons_of_mem _ hz)) with e | e
      · have := ha.1 z hz; omega
      · exact e
    · intro hz
      rcases List.mem_cons.1 ((h z).2 (List.mem_cons_of_mem _ hz)) with e | e
      · have := hb.1 z hz; omega
      · exact e
theorem dk_rise {S : List Int} (hs : ∀ a b, a ≤ b → b < S.length → S.getD a 0 ≤ S.getD b 0) : ∀ j, j ≤ S.length → Rise (dk S j) ∧ ∀ x, x ∈ dk S j ↔ ∃ t, t < j ∧ x = S.getD t 0
  | 0, _ => ⟨List.Pairwise.nil, fun x => by simp [dk]⟩
  | j + 1, hj => by
    obtain ⟨h1, h2⟩ := dk_rise hs j (by omega)
    by_cases hn : j = 0 ∨ S.getD j 0 ≠ S.getD (j - 1) 0
    · rw [dk, if_pos hn]
      refine ⟨?_, fun x => ?_⟩
      · unfold Rise at h1 ⊢
        rw [List.pairwise_append]
        refine ⟨h1, List.pairwise_singleton _ _, fun x hx y hy => ?_⟩
        obtain ⟨t, ht, e⟩ := (h2 x).1 hx
        rw [List.mem_singleton.1 hy, e]
        have a1 := hs t (j - 1) (by omega) (by omega)
        have a2 := hs (j - 1) j (by omega) (by omega)
        rcases hn with h0 | h0
        · omega
        · omega
      · rw [List.mem_append, h2, List.mem_singleton]
        constructor
        · rintro (⟨t, ht, e⟩ | e)
          · exact ⟨t, by omega, e⟩
          · exact ⟨j, by omega, e⟩
        · rintro ⟨t, ht, e⟩
          by_cases htj : t = j
          · right; rw [e, htj]
          · left; exact ⟨t, by omega, e⟩
    · rw [dk, if_neg hn, List.append_nil]
      refine ⟨h1, fun x => ?_⟩
      rw [h2]
      constructor
      · rintro ⟨t, ht, e⟩; exact ⟨t, by omega, e⟩
      · rintro ⟨t, ht, e⟩
        by_cases htj : t = j
        · refine ⟨j - 1, by omega, ?_⟩
          rw [e, htj]
          have : ¬ (S.getD j 0 ≠ S.getD (j - 1) 0) := fun h => hn (.inr h)
          exact Decidable.not_not.1 this
        · exact ⟨t, by omega, e⟩
theorem srt_sorted (l : List Int) : ∀ a b, a ≤ b → b < (srtL l).length → (srtL l).getD a 0 ≤ (srtL l).getD b 0 := by
  have hp : (srtL l).Pairwise (fun x y => (!lt y x) = true) := by
    unfold srtL
    refine List.pairwise_mergeSort (fun x y z h1 h2 => ?_) (fun x y => ?_) l
    · simp only [lt, Go.Sort.ltInt, Bool.not_eq_true', decide_eq_false_iff_not] at *; omega
    · simp only [lt, Go.Sort.ltInt, Bool.or_eq_true, Bool.not_eq_true', decide_eq_false_iff_not]; omega
  intro a b hab hb
  by_cases e : a = b
  · rw [e]; exact Int.le_refl _
  · have := List.pairwise_iff_getElem.1 hp a b (by omega) hb (by omega)
    simp only [lt, Go.Sort.ltInt, Bool.not_eq_true', decide_eq_false_iff_not] at this
    simp only [List.getD, List.getElem?_eq_getElem hb, List.getElem?_eq_getElem (show a < (srtL l).length by omega), Option.getD_some]
    omega
theorem rs_rise (l : List Int) : Rise (rsL l) := (dk_rise (srt_sorted l) l.length (by rw [srt_len]; exact Nat.le_refl _)).1
theorem rs_mem (l : List Int) (x : Int) : x ∈ rsL l ↔ x ∈ l := by
  unfold rsL
  rw [(dk_rise (srt_sorted l) l.length (by rw [srt_len]; exact Nat.le_refl _)).2 x]
  have hm : x ∈ srtL l ↔ x ∈ l := by unfold srtL; exact List.mem_mergeSort
  rw [← hm]
  constructor
  · rintro ⟨t, ht, e⟩
    have ht' : t < (srtL l).length := by rw [srt_len]; exact ht
    rw [e]
    simp only [List.getD, List.getElem?_eq_getElem ht', Option.getD_some]
    exact List.getElem_mem ht'
  · intro h
    obtain ⟨t, ht, e⟩ := List.getElem_of_mem h
    exact ⟨t, by rw [srt_len] at ht; exact ht, by simp only [List.getD, List.getElem?_eq_getElem ht, Option.getD_some]; exact e.symm⟩
theorem rs_src (l : List Clm) : rsL (l.map fun c => c.by_) = srcF l :=
  rise_one (rs_rise _) (src_rise l) fun x => by
    rw [rs_mem, src_mem, List.mem_map]
    constructor
    · rintro ⟨c, h1, h2⟩; exact ⟨c, h1, h2.symm⟩
    · rintro ⟨c, h1, h2⟩; exact ⟨c, h1, h2.symm⟩
end Go.Proofs.YtmncdmpeeibgmaaGreatDoor
/- The sources of claims, by the program. -/
namespace Go.Proofs.YtmncdmpeeibgmaaGreatDoor
open Go Go.Em
set_option maxRecDepth 100000
attribute [local instance] tl0
def bysF (l : List Clm) : List Int := l.map fun c => c.by_
def qPsI (l : List Clm) (h0 : Heap) (kb : Nat) (k : Nat) (s : St) : Prop := ∃ (x : Env 26) (h : Heap) (i : Nat), s = ⟨x.l, h, []⟩ ∧ i + k = l.length ∧ x.v 12 = clsD l ∧ x.v 13 = D.int l.length ∧ x.v 14 = D.int i ∧ x.v 3 = .slr kb 0 i 1 (some l.length) ∧ h.get kb = some (.cells 3 ((bysF (l.take i)).map D.int)) ∧ kb < h.next ∧ h.Fr ∧ h0.next ≤ kb ∧ Un h0 h
set_option maxHeartbeats 4000000 in
theorem psrc_round (l : List Clm) (h0 : Heap) (kb : Nat) (hlen : l.length ≤ 1000) : ∀ n, 10 ≤ n → ∀ k s, qPsI l h0 kb k s → Res (k27l0.ev ⟨pg, 26, none⟩ (rc pg n) s) (Rnd (qPsI l h0 kb) (fun x s => x = .exit 0 ∧ qPsI l h0 kb 0 s) k) := by
  rintro n hn k s ⟨x, h, i, rfl, hik, v12, v13, v14, v3, hg, hk, hf, hk0, hu1, hu2⟩
  simp only [clsD] at v12
  by_cases hi : i < l.length
  · obtain ⟨c, hc⟩ : ∃ c, l[i] = c := ⟨_, rfl⟩
    have htk : l.take (i + 1) = l.take i ++ [c] := by rw [List.take_add_one, List.getElem?_eq_getElem hi, hc]; rfl
    have w1 : IntKind.i64.wrap ((i : Int) + 1) = (i : Int) + 1 := wrap_i64 (by omega) (by omega)
    have hfr : ∀ j, h.raw (h.next + j) = none := fun j => hf _ (by omega)
    have n1 : ∀ j, (kb = h.next + j) = False := fun j => by simp; omega
    have n2 : ∀ j, (h.next + j = kb) = False := fun j => by simp; omega
    obtain ⟨B, hB⟩ : ∃ B, B = (bysF (l.take i)).map D.int := ⟨_, rfl⟩
    have hBl : B.length = i := by rw [hB]; simp [bysF]; omega
    rw [← hB] at hg
    have happ : ∀ (t : Nat) (h : Heap) (X : List D), appS t 3 1 8 h 1 X kb 0 i 1 (some l.length) (some (.cells 3 B)) = some (.slr kb 0 (i + 1) 1 (some l.length), h.set kb (some (.cells 3 (B ++ X)))) := fun t h X =>
      appS_cap (by omega) (by omega) (by unfold room; omega) (by unfold maxLen; omega)
    have hz1 : zerosD [.int .i64 0] 1 1 = [D.int 0] := rfl
    have hsn : (bysF (l.take (i + 1))).map D.int = B ++ [D.int c.by_] := by rw [htk, hB]; simp [bysF]
    simp [k27l0, v12, v13, v14, v3, hi, hc, clD, clC, D.cells, D.one, hfr, Nat.add_assoc, n1, w1, hg, happ, hz1, apK_some]
    refine ⟨k - 1, by omega, _, _, i + 1, rfl, by omega, by simp [v12, clsD], by simp [v13], by simp, by simp, ?_, by simp; omega, ?_, hk0, by simp; omega, fun j hj => ?_⟩
    · rw [hsn]; simp
    · repeat' first | exact hf | apply Heap.Fr.bump | apply Heap.Fr.set
      all_goals (simp <;> omega)
    · have e1 : j ≠ kb := by omega
      have e2 : ∀ q, (j = h.next + q) = False := fun q => by simp; omega
      simp [e1, e2, hu2 j hj]
  · simp [k27l0, v13, v14, hi]
    exact ⟨_, _, i, rfl, by omega, by simp [v12, clsD], by simp [v13], by simp [v14], by simp [v3], by simp [hg], by simp; omega, hf.bump _, hk0, by simp; omega, fun j hj => by simp [hu2 j hj]⟩
set_option maxHeartbeats 4000000 in
theorem sources_sh (l : List Clm) (h0' : chkF l = 0) {h : Heap} (hf : h.Fr) {n : Nat} (hn : 1000000 ≤ n) : ∃ kb h' Z, (rc pg n).fn 27 [clsD l] h = some (.ret (.slr kb 0 (srcF l).length 1 (some l.length)), h') ∧ (srcF l ++ Z).length = l.length ∧ h'.get kb = some (.cells 3 ((srcF l ++ Z).map D.int)) ∧ h.next ≤ kb ∧ kb < h'.next ∧ h'.Fr ∧ Un h h' := by
  obtain ⟨m, rfl, e⟩ := fn_body (pg := pg) (f := 27) (args := [clsD l]) (h := h) (show 0 < n by omega) rfl rfl
  rw [e]
  obtain ⟨hl, _, _⟩ := chk_ok h0'
  have c1 := fun h => call_of (h := h) (pg := pg) (f := 22) rfl (cls_canon l) (@chk_run l m (by omega))
  rw [h0'] at c1
  simp only [clsD] at c1
  have hfr : ∀ j, h.raw (h.next + j) = none := fun j => hf _ (by omega)
  have hz0 : zerosD [.int .i64 0] 1 0 = [] := rfl
  have hroom : (8 : Int) * l.length ≤ (room : Int) := by unfold room; omega
  have hroom2 : 8 * l.length ≤ room := by unfold room; omega
  simp [k27, Env.v_ini, clsD, c1, hz0, hroom, hfr, Nat.add_assoc, ev_loop]
  refine ⟨h.next + 63, Res.fin3 (lp_rule 10 (qPsI l h (h.next + 63)) _ (psrc_round l h (h.next + 63) (by omega)) l.length m _ (by omega) ⟨_, _, 0, rfl, by omega, by simp [clsD], by simp, by simp, by simp, by simp [bysF], by simp, ?_, by omega, by simp; omega, fun j hj => ?_⟩) ?_⟩
  · repeat' first | exact hf | apply Heap.Fr.bump | apply Heap.Fr.set
    all_goals (simp <;> omega)
  · have e2 : ∀ q, (j = h.next + q) = False := fun q => by simp; omega
    simp [e2]
  · rintro x s ⟨rfl, x, h1, i, rfl, hi, v12, v13, v14, v3, hg, hk, hf1, hk0, hu1, hu2⟩
    have hil : i = l.length := by omega
    subst hil
    rw [List.take_length] at hg
    obtain ⟨H1, hH1⟩ : ∃ H, H = h1.bump 26 := ⟨_, rfl⟩
    have hgH : H1.get (h.next + 63) = some (.cells 3 (dl (bysF l).toArray)) := by rw [dl0, hH1]; simpa using hg
    obtain ⟨h2, Z, r1, hZ, sd⟩ := rising_sh (l := bysF l) (c0 := some l.length) hgH (by rw [hH1]; simp; omega) (by rw [hH1]; exact hf1.bump _) (N := l.length) (by simp [bysF]) (by omega) (n := m) (by
      have : (l.length + 1) * (3 * l.length + 201) ≤ 401 * 1401 := Nat.mul_le_mul (by omega) (by omega)
      omega)
    have c2 := call_sh (pg := pg) (f := 57) rfl r1
    have ers : rsL (bysF l) = srcF l := rs_src l
    rw [ers] at c2 hZ sd
    have hun : Un H1 h2 ∨ True := .inr trivial
    simp [v3, ← hH1, c2]
    refine ⟨Z, by simpa using hZ, by have := sd.g; rw [dl0] at this; simpa using this, by have := sd.n; have := sd.k; omega, sd.fr, by have := sd.n; rw [hH1] at this; simp at this; omega, fun j hj => ?_⟩
    rw [sd.u j (by omega) (by rw [hH1]; simp; omega), hH1]
    simp [hu2 j hj]
end Go.Proofs.YtmncdmpeeibgmaaGreatDoor
