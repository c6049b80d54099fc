/- Years of some marks that break no bound are those of a chronology: the law's loop over the marks, the datum. -/
import Derived.Test.YtjgafgkkpofgbaaDoorExt1
import Derived.Test.YtjgafgkkpofgbaaDoorKp1
namespace Go.Proofs.YtjgafgkkpofgbaaDoor
open Go Go.Em Go.Em.Net
set_option maxRecDepth 100000
/-- What the marks that are dated leave, when the datum is one of them. -/
def rgZ (A : Nat → Nat → Int) (y : Nat → Int) (j : Nat) (m : Int) (z : Bool) (r : Int × Int × Bool) : Int × Int × Bool := if m ≠ 0 ∧ z = true then rgS A y j r 0 else r
set_option maxHeartbeats 8000000 in
theorem ext_e (l : List Clm) (hl : (marksF l).length ≤ 64) (h0 : chkF l = 0) (hbad : badF l = false) (kp p : List Int) (hp : p.length ≤ 4000000000000000000) (b7 : Nat) {n k j : Nat} (hn : 1 ≤ n) (hj : j < (marksF l).length) (hjk : j + k = (marksF l).length) (a : List Nat) (y : Nat → Int) (hal : a.length ≤ j) (halt : ∀ q, q ∈ a → q < j) (hy0 : hasZ (marksF l) = true → y 0 = 0) (x : Env 284) (h : Heap) (m : Int) (r r' : Int × Int × Bool) (hr' : r' = rgZ (encM (cloF l)) y j m (hasZ (marksF l)) r) (hm : (marksF l)[j] = m)
    (hle : r'.1 ≤ r'.2.1) (hlo : -400000000 ≤ r'.1) (hhi : r'.2.1 ≤ 400000000) (hX : ∀ v, r'.1 ≤ v → v ≤ r'.2.1 → Xt l (j + 1) (a ++ [j]) (fun q => if q = j then v else y q))
    (v0 : x.v 0 = clsD l) (v1 : x.v 1 = .sl false (kp.map fun c => D.val (.int .u8 c))) (v2 : x.v 2 = intsD p) (v7 : x.v 7 = .ptr b7 0) (v11 : x.v 11 = D.int j) (v12 : x.v 12 = D.int m) (v13 : x.v 13 = D.int r.1) (v14 : x.v 14 = D.int r.2.1) (v15 : x.v 15 = D.bool r.2.2) (v44 : x.v 44 = intsD (marksF l)) (v45 : x.v 45 = D.int (marksF l).length) (v46 : x.v 46 = D.int j)
    (g9 : GX 58 2 a.length ((fxF (marksF l) y a).flatMap dtC) h (x.v 9)) (g10 : GX 3 1 a.length (a.map fun q : Nat => D.int (q : Int)) h (x.v 10)) (hg7 : h.get b7 = some (.cells 42 [intsD (marksF l), rowsD (marksF l).length (encM (cloF l))])) (hb7 : b7 < h.next) (hf : h.Fr) :
    Res (andThen (blockK 1 (k10e.ev ⟨pg, 284, none⟩ (rc pg n) ⟨x.l, h, []⟩)) (k10q.ev ⟨pg, 284, none⟩ (rc pg n))) (Rnd (OX l kp p b7) (fun x s => x = .exit 0 ∧ OX l kp p b7 0 s) k) := by
  have bt := clo_small h0 hbad
  have c := clo_clsd h0 hbad
  have hA := enc_bd bt
  have hn0 : 0 < (marksF l).length := by omega
  have hnl : ((0 : Int) < ((marksF l).length : Int)) := by omega
  obtain ⟨b, hb⟩ : ∃ b, (marksF l)[0] = b := ⟨_, rfl⟩
  have hz : hasZ (marksF l) = (b == 0) := by
    unfold hasZ
    rw [List.head?_eq_getElem?, List.getElem?_eq_getElem hn0, hb]; rfl
  have hgN := hg7
  have fin : ∀ (x' : Env 284) (h' : Heap), x'.v 0 = clsD l → x'.v 1 = .sl false (kp.map fun c => D.val (.int .u8 c)) → x'.v 2 = intsD p → x'.v 7 = .ptr b7 0 → x'.v 9 = x.v 9 → x'.v 10 = x.v 10 → x'.v 11 = D.int j → x'.v 12 = D.int m → x'.v 13 = D.int r'.1 → x'.v 14 = D.int r'.2.1 → x'.v 44 = intsD (marksF l) → x'.v 45 = D.int (marksF l).length → x'.v 46 = D.int j → (∀ q, h'.get q = h.get q) → h.next ≤ h'.next → h'.Fr →
      Res (andThen (blockK 1 (k10f.ev ⟨pg, 284, none⟩ (rc pg n) ⟨x'.l, h', []⟩)) (k10q.ev ⟨pg, 284, none⟩ (rc pg n))) (Rnd (OX l kp p b7) (fun x s => x = .exit 0 ∧ OX l kp p b7 0 s) k) := by
    intro x' h' u0 u1 u2 u7 u9 u10 u11 u12 u13 u14 u44 u45 u46 hh hnx hf'
    exact ext_f l hl kp p hp b7 hn hj hjk a y hal halt x' h' m r'.1 r'.2.1 hm hle hlo hhi hX u0 u1 u2 u7 u11 u12 u13 u14 u44 u45 u46 (by rw [u9]; exact g9.keep hnx (fun q _ => hh q)) (by rw [u10]; exact g10.keep hnx (fun q _ => hh q)) (by rw [hh]; exact hgN) (by omega) hf'
  have y1 := fun a => yCs_len (marksF l).length a
  have e1 := fun h' => yCs_at (y := encM (cloF l) 0) hj h'
  have e2 := fun h' => yCs_at (y := encM (cloF l) j) hn0 h'
  have i1 : 0 + 1 ≤ (marksF l).length := hn0
  have i2 : j + 1 ≤ (marksF l).length := hj
  have q1 := hA j 0
  have q2 := hA 0 j
  have x1 : IntKind.i64.wrap (-(encM (cloF l) j 0)) = -(encM (cloF l) j 0) := wrap_i64 (by omega) (by omega)
  simp only [intsD, rowsD] at hg7
  by_cases hm0 : m = 0
  · have hm0' : (m != 0) = false := by simpa using hm0
    have hre : r' = r := by rw [hr']; unfold rgZ; rw [if_neg (by simp [hm0])]
    simp [-beq_iff_eq, -bne_iff_ne, -beq_eq_false_iff_ne, -bne_eq_false_iff_eq, k10e, v0, v1, v2, v7, v11, v12, v13, v14, v15, hm0']
    exact fin _ _ (by simp [v0]) (by simp [v1]) (by simp [v2]) (by simp [v7]) (by simp) (by simp) (by simp [v11]) (by simp [v12]) (by simp [v13, hre]) (by simp [v14, hre]) (by simp [v44]) (by simp [v45]) (by simp [v46]) (fun q => by simp) (by simp) (hf.bump _)
  have hm0' : (m != 0) = true := by simpa using hm0
  by_cases hb0 : b = 0
  · subst hb0
    have hb0' : ((0 : Int) == 0) = true := rfl
    have hzt : hasZ (marksF l) = true := by rw [hz]; rfl
    have hy00 := hy0 hzt
    by_cases f1 : encM (cloF l) 0 j = 1000000000
    · have f1' : (encM (cloF l) 0 j != 1000000000) = false := by simpa using f1
      have hre : r' = r := by rw [hr']; unfold rgZ rgS; rw [if_pos ⟨hm0, hzt⟩, if_pos (.inl f1)]
      simp [-beq_iff_eq, -bne_iff_ne, -beq_eq_false_iff_ne, -bne_eq_false_iff_eq, k10e, v0, v1, v2, v7, v11, v12, v13, v14, v15, hm0', hg7, hn0, hnl, hj, i1, i2, hb, hb0', y1, e1, e2, x1, D.cells, D.one, f1']
      exact fin _ _ (by simp [v0]) (by simp [v1]) (by simp [v2]) (by simp [v7]) (by simp) (by simp) (by simp [v11]) (by simp [v12]) (by simp [v13, hre]) (by simp [v14, hre]) (by simp [v44]) (by simp [v45]) (by simp [v46]) (fun q => by simp) (by simp <;> omega) (by
        repeat' first | exact hf | apply Heap.Fr.bump)
    · have f1' : (encM (cloF l) 0 j != 1000000000) = true := by simpa using f1
      have f2 : ¬ encM (cloF l) j 0 = 1000000000 := fun e => c.sym (fun e' => f1 ((enc_far bt).2 e')) ((enc_far bt).1 e)
      cases hf1 : r.2.2 with
      | true =>
        rw [hf1] at v15
        have hre : r' = (-(encM (cloF l) j 0), encM (cloF l) 0 j, false) := by rw [hr']; unfold rgZ rgS; rw [if_pos ⟨hm0, hzt⟩, if_neg (fun e => e.elim f1 f2), if_pos hf1, hy00, Int.zero_sub, Int.zero_add]
        simp [-beq_iff_eq, -bne_iff_ne, -beq_eq_false_iff_ne, -bne_eq_false_iff_eq, k10e, v0, v1, v2, v7, v11, v12, v13, v14, v15, hm0', hg7, hn0, hnl, hj, i1, i2, hb, hb0', y1, e1, e2, x1, D.cells, D.one, f1']
        exact fin _ _ (by simp [v0]) (by simp [v1]) (by simp [v2]) (by simp [v7]) (by simp) (by simp) (by simp [v11]) (by simp [v12]) (by simp [hre]) (by simp [hre]) (by simp [v44]) (by simp [v45]) (by simp [v46]) (fun q => by simp) (by simp <;> omega) (by
          repeat' first | exact hf | apply Heap.Fr.bump)
      | false =>
        rw [hf1] at v15
        have hre : r' = (max r.1 (-(encM (cloF l) j 0)), min r.2.1 (encM (cloF l) 0 j), false) := by rw [hr']; unfold rgZ rgS; rw [if_pos ⟨hm0, hzt⟩, if_neg (fun e => e.elim f1 f2), if_neg (by simp [hf1]), hy00, Int.zero_sub, Int.zero_add]
        simp [-beq_iff_eq, -bne_iff_ne, -beq_eq_false_iff_ne, -bne_eq_false_iff_eq, k10e, v0, v1, v2, v7, v11, v12, v13, v14, v15, hm0', hg7, hn0, hnl, hj, i1, i2, hb, hb0', y1, e1, e2, x1, D.cells, D.one, f1']
        exact fin _ _ (by simp [v0]) (by simp [v1]) (by simp [v2]) (by simp [v7]) (by simp) (by simp) (by simp [v11]) (by simp [v12]) (by simp [hre]) (by simp [hre]) (by simp [v44]) (by simp [v45]) (by simp [v46]) (fun q => by simp) (by simp <;> omega) (by
          repeat' first | exact hf | apply Heap.Fr.bump)
  · have hb0' : (b == 0) = false := by simpa using hb0
    have hre : r' = r := by rw [hr']; unfold rgZ; rw [if_neg (by rw [hz]; simp [hb0])]
    simp [-beq_iff_eq, -bne_iff_ne, -beq_eq_false_iff_ne, -bne_eq_false_iff_eq, k10e, v0, v1, v2, v7, v11, v12, v13, v14, v15, hm0', hg7, hn0, hnl, i1, hb, hb0', D.cells, D.one]
    exact fin _ _ (by simp [v0]) (by simp [v1]) (by simp [v2]) (by simp [v7]) (by simp) (by simp) (by simp [v11]) (by simp [v12]) (by simp [v13, hre]) (by simp [v14, hre]) (by simp [v44]) (by simp [v45]) (by simp [v46]) (fun q => by simp) (by simp) (hf.bump _)
end Go.Proofs.YtjgafgkkpofgbaaDoor
/- Years of some marks that break no bound are those of a chronology: the law's loop over the marks. -/
namespace Go.Proofs.YtjgafgkkpofgbaaDoor
open Go Go.Em Go.Em.Net
set_option maxRecDepth 100000
theorem Res.in2 {L : Option (Ex × St)} {i1 i2 : Nat} {E F : St → Option (Ex × St)} {P Q : Ex → St → Prop} (h : Res L P) (hk : ∀ x s, P x s → Res (andThen (blockK i1 (andThen (blockK i2 (some (x, s))) E)) F) Q) : Res (andThen (blockK i1 (andThen (blockK i2 L) E)) F) Q := by
  obtain ⟨x, s, rfl, p⟩ := h; exact hk x s p
set_option maxHeartbeats 8000000 in
theorem ext_d (l : List Clm) (hl : (marksF l).length ≤ 64) (h0 : chkF l = 0) (hbad : badF l = false) (kp p : List Int) (hp : p.length ≤ 4000000000000000000) (b7 : Nat) {n k j : Nat} (hn : 200 ≤ n) (hj : j < (marksF l).length) (hjk : j + k = (marksF l).length) (a : List Nat) (y : Nat → Int) (hX0 : Xt l j a y) (x : Env 284) (h : Heap) (m lo hi : Int) (hm : (marksF l)[j] = m) (hlh : m = 0 ∧ lo = 0 ∧ hi = 0 ∨ m ≠ 0 ∧ lo = -1000 ∧ hi = 1000)
    (v0 : x.v 0 = clsD l) (v1 : x.v 1 = .sl false (kp.map fun c => D.val (.int .u8 c))) (v2 : x.v 2 = intsD p) (v7 : x.v 7 = .ptr b7 0) (v11 : x.v 11 = D.int j) (v12 : x.v 12 = D.int m) (v13 : x.v 13 = D.int lo) (v14 : x.v 14 = D.int hi) (v15 : x.v 15 = D.bool true) (v44 : x.v 44 = intsD (marksF l)) (v45 : x.v 45 = D.int (marksF l).length) (v46 : x.v 46 = D.int j)
    (g9 : GX 58 2 a.length ((fxF (marksF l) y a).flatMap dtC) h (x.v 9)) (g10' : GX 3 1 a.length (a.map fun q : Nat => D.int (q : Int)) h (x.v 10)) (hg7 : h.get b7 = some (.cells 42 [intsD (marksF l), rowsD (marksF l).length (encM (cloF l))])) (hb7 : b7 < h.next) (hf : h.Fr) :
    Res (andThen (blockK 1 (k10d.ev ⟨pg, 284, none⟩ (rc pg n) ⟨x.l, h, []⟩)) (k10q.ev ⟨pg, 284, none⟩ (rc pg n))) (Rnd (OX l kp p b7) (fun x s => x = .exit 0 ∧ OX l kp p b7 0 s) k) := by
  have bt := clo_small h0 hbad
  have c := clo_clsd h0 hbad
  have hA := enc_bd bt
  have hr := marks_rise l
  have hal := hX0.len
  have halt := hX0.lt
  have in_a : ∀ q, q ∈ a → dtO (hasZ (marksF l)) a q = true := fun q hq => by unfold dtO; simp [hq]
  have hyb : ∀ q, q ∈ a → -1000000000 ≤ y q ∧ y q ≤ 1000000000 := fun q hq => by
    have := hX0.ok.bd c bt (show q < (marksF l).length by have := halt q hq; omega) (in_a q hq)
    omega
  have hn0 : 0 < (marksF l).length := by omega
  have hz : hasZ (marksF l) = ((marksF l)[0] == 0) := by
    unfold hasZ
    rw [List.head?_eq_getElem?, List.getElem?_eq_getElem hn0]; rfl
  have m0 : m = 0 → j = 0 := fun e => by
    apply Decidable.byContradiction; intro hne
    have h5 := List.pairwise_iff_getElem.1 hr 0 j hn0 hj (by omega)
    have h6 := marks_nn h0 _ (List.getElem_mem hn0)
    omega
  have hm1 : a ≠ [] → m ≠ 0 := fun ha e => by
    have := m0 e
    subst this
    exact ha (List.eq_nil_of_length_eq_zero (by omega))
  obtain ⟨r, hrd⟩ : ∃ r, r = rgF (encM (cloF l)) y j lo hi a := ⟨_, rfl⟩
  obtain ⟨r', hr'⟩ : ∃ r', r' = rgZ (encM (cloF l)) y j m (hasZ (marksF l)) r := ⟨_, rfl⟩
  have key : r'.1 ≤ r'.2.1 ∧ -400000000 ≤ r'.1 ∧ r'.2.1 ≤ 400000000 ∧ ∀ v, r'.1 ≤ v → v ≤ r'.2.1 → Xt l (j + 1) (a ++ [j]) (fun q => if q = j then v else y q) := by
    have asc' : (a ++ [j]).Pairwise (· < ·) := List.pairwise_append.2 ⟨hX0.asc, List.pairwise_singleton _ _, fun q hq q' hq' => by
      have := halt q hq
      have : q' = j := by simpa using hq'
      omega⟩
    have lt' : ∀ q, q ∈ a ++ [j] → q < j + 1 := fun q hq => by
      rcases List.mem_append.1 hq with e | e
      · have := halt q e; omega
      · have : q = j := by simpa using e
        omega
    have len' : (a ++ [j]).length ≤ j + 1 := by simp; omega
    rcases hlh with ⟨e1, e2, e3⟩ | ⟨e1, e2, e3⟩
    · have hj0 := m0 e1
      subst hj0
      have han : a = [] := List.eq_nil_of_length_eq_zero (by omega)
      subst han
      have hzt : hasZ (marksF l) = true := by rw [hz, hm, e1]; rfl
      have hre : r' = (0, 0, true) := by rw [hr']; unfold rgZ; rw [if_neg (by simp [e1]), hrd, e2, e3]; rfl
      rw [hre]
      refine ⟨by decide, by decide, by decide, fun v h1 h2 => ?_⟩
      simp only at h1 h2
      have hv : v = 0 := by omega
      subst hv
      have hy0 := hX0.zero hzt
      have ey : (fun q => if q = 0 then 0 else y q) = y := by
        funext q; by_cases e : q = 0
        · subst e; simp [hy0]
        · simp [e]
      have ed : dtO (hasZ (marksF l)) ([] ++ [0]) = dtO (hasZ (marksF l)) [] := by
        rw [hzt, List.nil_append]
        funext q; unfold dtO; simp
      rw [ey]
      exact ⟨asc', lt', by rw [ed]; exact hX0.ok, hX0.zero, len'⟩
    · have hd : dtO (hasZ (marksF l)) a j = false := by
        unfold dtO
        rw [Bool.or_eq_false_iff]
        constructor
        · have : j ∉ a := fun e => by have := halt j e; omega
          simpa using this
        · rw [Bool.and_eq_false_iff]
          by_cases hj0 : j = 0
          · left; rw [hz]; subst hj0; rw [hm]; simpa using e1
          · right; simpa using hj0
      have ha' : ∀ q, dtO (hasZ (marksF l)) a q = true → q < (marksF l).length := fun q hq => by
        unfold dtO at hq
        rcases Bool.or_eq_true _ _ ▸ hq with e | e
        · have := halt q (by simpa using e); omega
        · obtain ⟨_, e⟩ := Bool.and_eq_true _ _ ▸ e
          have : q = 0 := by simpa using e
          omega
      have hre : r' = rgF (encM (cloF l)) y j (-1000) 1000 (allB (hasZ (marksF l)) a) := by
        rw [hr', hrd, e2, e3]
        unfold rgZ allB
        cases hh : hasZ (marksF l) with
        | true => rw [if_pos ⟨e1, rfl⟩, if_pos rfl, rg_snoc]
        | false => rw [if_neg (by simp), if_neg (by simp)]
      rw [hre]
      obtain ⟨s1, s2, s3, s4⟩ := rg_step h0 hbad hj hX0.ok hd ha'
      refine ⟨s1, s2, s3, fun v h1 h2 => ⟨asc', lt', s4 v h1 h2, fun hzt => ?_, len'⟩⟩
      have hj0 : j ≠ 0 := fun e => by
        subst e
        rw [hz, hm] at hzt
        exact e1 (by simpa using hzt)
      show (if 0 = j then v else y 0) = 0
      rw [if_neg (fun e => hj0 e.symm)]
      exact hX0.zero hzt
  obtain ⟨k1, k2, k3, k4⟩ := key
  have fin : ∀ (x' : Env 284) (h' : Heap), (∀ q, q < 13 → x'.v q = x.v q) → (∀ q, 43 < q → q < 47 → x'.v q = x.v q) → x'.v 13 = D.int r.1 → x'.v 14 = D.int r.2.1 → x'.v 15 = D.bool r.2.2 → (∀ q, h'.get q = h.get q) → h.next ≤ h'.next → h'.Fr →
      Res (andThen (blockK 1 (k10e.ev ⟨pg, 284, none⟩ (rc pg n) ⟨x'.l, h', []⟩)) (k10q.ev ⟨pg, 284, none⟩ (rc pg n))) (Rnd (OX l kp p b7) (fun x s => x = .exit 0 ∧ OX l kp p b7 0 s) k) := by
    intro x' h' sm sm2 u13 u14 u15 hh hnx hf'
    exact ext_e l hl h0 hbad kp p hp b7 (by omega) hj hjk a y hal halt hX0.zero x' h' m r r' hr' hm k1 k2 k3 k4 (by rw [sm 0 (by omega)]; exact v0) (by rw [sm 1 (by omega)]; exact v1) (by rw [sm 2 (by omega)]; exact v2) (by rw [sm 7 (by omega)]; exact v7) (by rw [sm 11 (by omega)]; exact v11) (by rw [sm 12 (by omega)]; exact v12) u13 u14 u15 (by rw [sm2 44 (by omega) (by omega)]; exact v44) (by rw [sm2 45 (by omega) (by omega)]; exact v45) (by rw [sm2 46 (by omega) (by omega)]; exact v46) (by rw [sm 9 (by omega)]; exact g9.keep hnx (fun q _ => hh q)) (by rw [sm 10 (by omega)]; exact g10'.keep hnx (fun q _ => hh q)) (by rw [hh]; exact hg7) (by omega) hf'
  by_cases ha0 : a = []
  · have el0 : a.length = 0 := by rw [ha0]; rfl
    have g10 : x.v 10 = .val (.slice none 0 0) := by
      rcases g10' with ⟨_, g⟩ | ⟨e, _⟩
      · exact g
      · omega
    simp [k10d, g10, ev_loop]
    refine Res.in2 (lp_rule 1 (L0I (encM (cloF l)) y a j lo hi (((x.upd 79 (.val (.slice none 0 0))).upd 80 (D.int a.length)).upd 81 (D.int 0)) (h.bump 284)) _ (rng_round (marksF l) hl (encM (cloF l)) hA y a (by omega) (fun q hq => by have := halt q hq; omega) hyb j hj m lo hi hm1 _ _ b7 (x.v 9) (by simp [v7]) (by simp [hg7]) (by simp) (g9.keep (by simp) (fun q _ => by simp)) (.val (.slice none 0 0)) (by simp) (by rw [← g10]; exact g10'.keep (by simp) (fun q _ => by simp)) (by simp [v11]) (by simp [v12])) a.length n _ (by omega) ⟨_, _, 0, by rw [el0]; rfl, by omega, fun q _ => rfl, fun q _ _ => rfl, rfl, by simp, by simp, by simp [v13, rgF], by simp [v14, rgF], by simp [v15, rgF], fun q => rfl, Nat.le_refl _, hf.bump _⟩) ?_
    rintro xo so ⟨rfl, x', h', K, rfl, hK, sm, sm2, w79, w80, w81, w13, w14, w15, hh, hnx, hf'⟩
    have hKl : K = a.length := by omega
    subst hKl
    rw [List.take_length, ← hrd] at w13 w14 w15
    simp only [blockK_exit, andThen_normal]
    exact fin x' h' (fun q hq => by
      have ne : ∀ t, 13 ≤ t → (t = q) = False := fun t ht => by simp; omega
      rw [sm q hq]; simp [ne]) (fun q h1 h2 => by
      have ne : ∀ t, 47 ≤ t → (t = q) = False := fun t ht => by simp; omega
      rw [sm2 q h1 h2]; simp [ne]) w13 w14 w15 (fun q => by rw [hh]; simp) (by simp at hnx; omega) hf'
  · have hal0 : a.length ≠ 0 := fun e => ha0 (List.eq_nil_of_length_eq_zero e)
    obtain ⟨k10, g10⟩ : ∃ k10, x.v 10 = .slr k10 0 a.length 1 none := by
      rcases g10' with ⟨e, _⟩ | ⟨_, k10, g, _⟩
      · exact absurd e hal0
      · exact ⟨k10, g⟩
    simp [k10d, g10, ev_loop]
    refine Res.in2 (lp_rule 1 (L0I (encM (cloF l)) y a j lo hi (((x.upd 79 (.slr k10 0 a.length 1 none)).upd 80 (D.int a.length)).upd 81 (D.int 0)) (h.bump 284)) _ (rng_round (marksF l) hl (encM (cloF l)) hA y a (by omega) (fun q hq => by have := halt q hq; omega) hyb j hj m lo hi hm1 _ _ b7 (x.v 9) (by simp [v7]) (by simp [hg7]) (by simp) (g9.keep (by simp) (fun q _ => by simp)) (.slr k10 0 a.length 1 none) (by simp) (by rw [← g10]; exact g10'.keep (by simp) (fun q _ => by simp)) (by simp [v11]) (by simp [v12])) a.length n _ (by omega) ⟨_, _, 0, rfl, by omega, fun q _ => rfl, fun q _ _ => rfl, rfl, by simp, by simp, by simp [v13, rgF], by simp [v14, rgF], by simp [v15, rgF], fun q => rfl, Nat.le_refl _, hf.bump _⟩) ?_
    rintro xo so ⟨rfl, x', h', K, rfl, hK, sm, sm2, w79, w80, w81, w13, w14, w15, hh, hnx, hf'⟩
    have hKl : K = a.length := by omega
    subst hKl
    rw [List.take_length, ← hrd] at w13 w14 w15
    simp only [blockK_exit, andThen_normal]
    exact fin x' h' (fun q hq => by
      have ne : ∀ t, 13 ≤ t → (t = q) = False := fun t ht => by simp; omega
      rw [sm q hq]; simp [ne]) (fun q h1 h2 => by
      have ne : ∀ t, 47 ≤ t → (t = q) = False := fun t ht => by simp; omega
      rw [sm2 q h1 h2]; simp [ne]) w13 w14 w15 (fun q => by rw [hh]; simp) (by simp at hnx; omega) hf'
end Go.Proofs.YtjgafgkkpofgbaaDoor
/- Years of some marks that break no bound are those of a chronology: the law, by the evaluator. -/
namespace Go.Proofs.YtjgafgkkpofgbaaDoor
open Go Go.Em Go.Em.Net
set_option maxRecDepth 100000
theorem Xt.next {l : List Clm} {j : Nat} {a : List Nat} {y : Nat → Int} (h : Xt l j a y) : Xt l (j + 1) a y := ⟨h.asc, fun q hq => by have := h.lt q hq; omega, h.ok, h.zero, by have := h.len; omega⟩
set_option maxHeartbeats 8000000 in
theorem ext_rnd (l : List Clm) (h0 : chkF l = 0) (hbad : badF l = false) (kp p : List Int) (hkp : kp.length ≤ 4000000000000000000) (hp : p.length ≤ 4000000000000000000) (b7 : Nat) : ∀ n, 200 ≤ n → ∀ k s, OX l kp p b7 k s → Res (k10l1.ev ⟨pg, 284, none⟩ (rc pg n) s) (Rnd (OX l kp p b7) (fun x s => x = .exit 0 ∧ OX l kp p b7 0 s) k) := by
  rintro n hn k s ⟨x, h, j, a, y, rfl, hjk, v0, v1, v2, v7, v44, v45, v46, hX, g9, g10, hg7, hb7, hf⟩
  have hl := (chk_ok h0).2.2
  have v44' := v44
  simp only [intsD] at v44'
  by_cases hj : j < (marksF l).length
  · obtain ⟨m, hm⟩ : ∃ m, (marksF l)[j] = m := ⟨_, rfl⟩
    have i2 : j + 1 ≤ (marksF l).length := hj
    have y1 := fun a => yCs_len (marksF l).length a
    have x4 : IntKind.i64.wrap ((j : Int) + 1) = (j : Int) + 1 := wrap_i64 (by omega) (by omega)
    have hnn : (((marksF l).length : Int) != ((marksF l).length : Int)) = false := by simp
    have hg7' := hg7
    simp only [intsD, rowsD] at hg7'
    have skip : ∀ (x' : Env 284) (h' : Heap), (∀ q, q < 11 → x'.v q = x.v q) → (∀ q, 43 < q → q < 46 → x'.v q = x.v q) → x'.v 46 = D.int ((j : Int) + 1) → (∀ q, h'.get q = h.get q) → h.next ≤ h'.next → h'.Fr → ∃ j', k = j' + 1 ∧ OX l kp p b7 j' ⟨x'.l, h', []⟩ := by
      intro x' h' sm sm2 u46 hh hnx hf'
      exact ⟨k - 1, by omega, x', h', j + 1, a, y, rfl, by omega, by rw [sm 0 (by omega)]; exact v0, by rw [sm 1 (by omega)]; exact v1, by rw [sm 2 (by omega)]; exact v2, by rw [sm 7 (by omega)]; exact v7, by rw [sm2 44 (by omega) (by omega)]; exact v44, by rw [sm2 45 (by omega) (by omega)]; exact v45, u46, hX.next, by rw [sm 9 (by omega)]; exact g9.keep hnx (fun q _ => hh q), by rw [sm 10 (by omega)]; exact g10.keep hnx (fun q _ => hh q), by rw [hh]; exact hg7, by omega, hf'⟩
    have go : ∀ (x' : Env 284) (h' : Heap) (lo hi : Int), (m = 0 ∧ lo = 0 ∧ hi = 0 ∨ m ≠ 0 ∧ lo = -1000 ∧ hi = 1000) → (∀ q, q < 11 → x'.v q = x.v q) → (∀ q, 43 < q → q < 47 → x'.v q = x.v q) → x'.v 11 = D.int j → x'.v 12 = D.int m → x'.v 13 = D.int lo → x'.v 14 = D.int hi → x'.v 15 = D.bool true → (∀ q, h'.get q = h.get q) → h.next ≤ h'.next → h'.Fr →
        Res (andThen (blockK 1 (k10d.ev ⟨pg, 284, none⟩ (rc pg n) ⟨x'.l, h', []⟩)) (k10q.ev ⟨pg, 284, none⟩ (rc pg n))) (Rnd (OX l kp p b7) (fun x s => x = .exit 0 ∧ OX l kp p b7 0 s) k) := by
      intro x' h' lo hi hlh sm sm2 u11 u12 u13 u14 u15 hh hnx hf'
      exact ext_d l hl h0 hbad kp p hp b7 hn hj hjk a y hX x' h' m lo hi hm hlh (by rw [sm 0 (by omega)]; exact v0) (by rw [sm 1 (by omega)]; exact v1) (by rw [sm 2 (by omega)]; exact v2) (by rw [sm 7 (by omega)]; exact v7) u11 u12 u13 u14 u15 (by rw [sm2 44 (by omega) (by omega)]; exact v44) (by rw [sm2 45 (by omega) (by omega)]; exact v45) (by rw [sm2 46 (by omega) (by omega)]; exact v46) (by rw [sm 9 (by omega)]; exact g9.keep hnx (fun q _ => hh q)) (by rw [sm 10 (by omega)]; exact g10.keep hnx (fun q _ => hh q)) (by rw [hh]; exact hg7) (by omega) hf'
    by_cases hk0 : kp = []
    · subst hk0
      by_cases hm0 : m = 0
      · have hm0' : (m == 0) = true := by simpa using hm0
        simp [-beq_iff_eq, -bne_iff_ne, -beq_eq_false_iff_ne, -bne_eq_false_iff_eq, k10l1_eq, k10c, v1, v44', v45, v46, v7, hj, hm, hg7', i2, y1, hnn, D.cells, D.one, hm0']
        exact go _ _ 0 0 (.inl ⟨hm0, rfl, rfl⟩) (fun q hq => by
          have ne : ∀ t, 11 ≤ t → (t = q) = False := fun t ht => by simp; omega
          simp [ne]) (fun q h1 h2 => by
          have ne : ∀ t, 47 ≤ t → (t = q) = False := fun t ht => by simp; omega
          have ne' : ∀ t, t ≤ 43 → (t = q) = False := fun t ht => by simp; omega
          simp [ne, ne']) (by simp) (by simp) (by simp) (by simp) (by simp) (fun q => by simp) (by simp <;> omega) (by
          repeat' first | exact hf | apply Heap.Fr.bump)
      · have hm0' : (m == 0) = false := by simpa using hm0
        simp [-beq_iff_eq, -bne_iff_ne, -beq_eq_false_iff_ne, -bne_eq_false_iff_eq, k10l1_eq, k10c, v1, v44', v45, v46, v7, hj, hm, hg7', i2, y1, hnn, D.cells, D.one, hm0']
        exact go _ _ (-1000) 1000 (.inr ⟨hm0, rfl, rfl⟩) (fun q hq => by
          have ne : ∀ t, 11 ≤ t → (t = q) = False := fun t ht => by simp; omega
          simp [ne]) (fun q h1 h2 => by
          have ne : ∀ t, 47 ≤ t → (t = q) = False := fun t ht => by simp; omega
          have ne' : ∀ t, t ≤ 43 → (t = q) = False := fun t ht => by simp; omega
          simp [ne, ne']) (by simp) (by simp) (by simp) (by simp) (by simp) (fun q => by simp) (by simp <;> omega) (by
          repeat' first | exact hf | apply Heap.Fr.bump)
    · have hpl : 0 < kp.length := List.length_pos_iff.2 hk0
      have hpl' : (0 : Int) < (kp.length : Int) := by omega
      have hq : j % kp.length < kp.length := Nat.mod_lt _ hpl
      obtain ⟨q, hqd⟩ : ∃ q, q = j % kp.length := ⟨_, rfl⟩
      rw [← hqd] at hq
      obtain ⟨v, hv⟩ : ∃ v, kp[q] = v := ⟨_, rfl⟩
      have b1 := bin_rem (k := .i64) (a := (j : Int)) (b := (kp.length : Int)) (by omega)
      have e1 : (j : Int).tmod (kp.length : Int) = (q : Int) := by rw [Int.tmod_eq_emod_of_nonneg (by omega), hqd]; omega
      rw [e1] at b1
      have b2 := bin_rem (k := .u8) (a := v) (b := 2) (by omega)
      have hq1 : q + 1 ≤ kp.length := hq
      cases hev : (v.tmod 2 == 0) with
      | true =>
        simp [-beq_iff_eq, -bne_iff_ne, -beq_eq_false_iff_ne, -bne_eq_false_iff_eq, k10l1_eq, k10c, v1, v44', v45, v46, v7, hj, hm, hg7', i2, y1, hnn, D.cells, D.one, k10q, hpl, hpl', b1, hq, hq1, hv, b2, hev, x4]
        exact skip _ _ (fun q hq => by
          have ne : ∀ t, 11 ≤ t → (t = q) = False := fun t ht => by simp; omega
          simp [ne]) (fun q h1 h2 => by
          have ne : ∀ t, 46 ≤ t → (t = q) = False := fun t ht => by simp; omega
          have ne' : ∀ t, t ≤ 43 → (t = q) = False := fun t ht => by simp; omega
          simp [ne, ne']) (by simp) (fun q => by simp) (by simp <;> omega) (by
          repeat' first | exact hf | apply Heap.Fr.bump)
      | false =>
        by_cases hm0 : m = 0
        · have hm0' : (m == 0) = true := by simpa using hm0
          simp [-beq_iff_eq, -bne_iff_ne, -beq_eq_false_iff_ne, -bne_eq_false_iff_eq, k10l1_eq, k10c, v1, v44', v45, v46, v7, hj, hm, hg7', i2, y1, hnn, D.cells, D.one, hpl, hpl', b1, hq, hq1, hv, b2, hev, hm0']
          exact go _ _ 0 0 (.inl ⟨hm0, rfl, rfl⟩) (fun q hq => by
            have ne : ∀ t, 11 ≤ t → (t = q) = False := fun t ht => by simp; omega
            simp [ne]) (fun q h1 h2 => by
            have ne : ∀ t, 47 ≤ t → (t = q) = False := fun t ht => by simp; omega
            have ne' : ∀ t, t ≤ 43 → (t = q) = False := fun t ht => by simp; omega
            simp [ne, ne']) (by simp) (by simp) (by simp) (by simp) (by simp) (fun q => by simp) (by simp <;> omega) (by
            repeat' first | exact hf | apply Heap.Fr.bump)
        · have hm0' : (m == 0) = false := by simpa using hm0
          simp [-beq_iff_eq, -bne_iff_ne, -beq_eq_false_iff_ne, -bne_eq_false_iff_eq, k10l1_eq, k10c, v1, v44', v45, v46, v7, hj, hm, hg7', i2, y1, hnn, D.cells, D.one, hpl, hpl', b1, hq, hq1, hv, b2, hev, hm0']
          exact go _ _ (-1000) 1000 (.inr ⟨hm0, rfl, rfl⟩) (fun q hq => by
            have ne : ∀ t, 11 ≤ t → (t = q) = False := fun t ht => by simp; omega
            simp [ne]) (fun q h1 h2 => by
            have ne : ∀ t, 47 ≤ t → (t = q) = False := fun t ht => by simp; omega
            have ne' : ∀ t, t ≤ 43 → (t = q) = False := fun t ht => by simp; omega
            simp [ne, ne']) (by simp) (by simp) (by simp) (by simp) (by simp) (fun q => by simp) (by simp <;> omega) (by
            repeat' first | exact hf | apply Heap.Fr.bump)
  · simp [k10l1_eq, v45, v46, hj]
    exact ⟨_, _, j, a, y, rfl, by omega, by simp [v0], by simp [v1], by simp [v2], by simp [v7], by simp [v44], by simp [v45], by simp [v46], hX, by simpa using g9.keep (h' := h.bump 284) (by simp) (fun q _ => by simp), by simpa using g10.keep (h' := h.bump 284) (by simp) (fun q _ => by simp), by simp [hg7], by simp; omega, hf.bump _⟩
end Go.Proofs.YtjgafgkkpofgbaaDoor
/- Years of some marks that break no bound are those of a chronology: the law, by the evaluator. -/
namespace Go.Proofs.YtjgafgkkpofgbaaDoor
open Go Go.Em Go.Em.Net
set_option maxRecDepth 100000
def k10w : Cd :=
  .seq (.region [⟨none, (some 256), .inl (.mv (.s 0))⟩,
    ⟨none, (some 257), .inl (.mv (.s 9))⟩,
    ⟨none, (some 258), .inr (.fn 38 [(.s 256), (.s 257)])⟩,
    ⟨none, (some 255), .inl (.mv (.s 258))⟩,
    ⟨none, (some 259), .inl (.ex (.s 255) 0)⟩,
    ⟨none, (some 260), .inl (.ex (.s 255) 1)⟩,
    ⟨none, (some 18), .inl (.mv (.s 259))⟩,
    ⟨none, (some 19), .inl (.mv (.s 260))⟩])
  (.seq (.seq (.region [⟨none, (some 261), .inl (.mv (.s 19))⟩,
    ⟨none, (some 262), .inl (.bin .neq (.s 261) (.c (.int .i64 0)))⟩,
    ⟨none, (some 263), .inl (.mv (.s 262))⟩,
    ⟨(some (263, false)), (some 264), .inl (.mv (.s 0))⟩,
    ⟨(some (263, false)), (some 265), .inl (.mv (.s 18))⟩,
    ⟨(some (263, false)), (some 266), .inr (.fn 23 [(.s 264), (.s 265)])⟩,
    ⟨(some (263, false)), (some 267), .inl (.bin .neq (.s 266) (.c (.int .i64 0)))⟩,
    ⟨none, (some 268), .inl (.pick (.s 263) (.c (.bool true)) (.s 267))⟩])
  (.cond (.s 268) (.seq (.region [⟨none, (some 6), .inl (.mv (.c (.bool false)))⟩])
   (.ret))
  (.skip)))
  (.seq (.seq (.region [⟨none, (some 269), .inl (.mv (.s 9))⟩,
    ⟨none, (some 270), .inl (.len (.s 269))⟩,
    ⟨none, (some 271), .inl (.mv (.c (.int .i64 0)))⟩])
  (.block 4 (.loop k10l2)))
  (.seq (.region [⟨none, (some 283), .inr (.fn 17 [])⟩,
    ⟨none, (some 6), .inl (.mv (.s 283))⟩])
  (.ret))))
theorem k10w_eq : k10 = .seq (.region [⟨none, (some 6), .inl (.mv (.c (.bool false)))⟩])
  (.seq (.region [⟨none, (some 23), .inl (.mv (.s 0))⟩,
    ⟨none, (some 24), .inr (.fn 24 [(.s 23)])⟩,
    ⟨none, (some 22), .inl (.mv (.s 24))⟩,
    ⟨none, (some 25), .inl (.ex (.s 22) 0)⟩,
    ⟨none, (some 26), .inl (.ex (.s 22) 1)⟩,
    ⟨none, (some 7), .inl (.alloc 42 [(.slice none 0 0), (.slice none 0 0)])⟩,
    ⟨none, none, .inl (.st 2 (.s 7) (.s 25))⟩,
    ⟨none, (some 8), .inl (.mv (.s 26))⟩])
  (.seq (.seq (.region [⟨none, (some 27), .inl (.mv (.s 8))⟩,
    ⟨none, (some 28), .inl (.bin .neq (.s 27) (.c (.int .i64 0)))⟩,
    ⟨none, (some 29), .inl (.mv (.s 28))⟩,
    ⟨(some (29, false)), (some 30), .inl (.fa (.s 7) 1)⟩,
    ⟨(some (29, false)), (some 31), .inl (.ld false 1 (.s 30))⟩,
    ⟨(some (29, false)), (some 32), .inl (.len (.s 31))⟩,
    ⟨(some (29, false)), (some 33), .inl (.fa (.s 7) 0)⟩,
    ⟨(some (29, false)), (some 34), .inl (.ld false 1 (.s 33))⟩,
    ⟨(some (29, false)), (some 35), .inl (.len (.s 34))⟩,
    ⟨(some (29, false)), (some 36), .inl (.bin .neq (.s 32) (.s 35))⟩,
    ⟨none, (some 37), .inl (.pick (.s 29) (.c (.bool true)) (.s 36))⟩])
  (.cond (.s 37) (.seq (.region [⟨none, (some 38), .inl (.mv (.s 8))⟩,
     ⟨none, (some 39), .inl (.bin .neq (.s 38) (.c (.int .i64 0)))⟩,
     ⟨none, (some 40), .inl (.mv (.s 39))⟩,
     ⟨(some (40, true)), (some 41), .inr (.fn 17 [])⟩,
     ⟨none, (some 42), .inl (.pick (.s 40) (.s 41) (.c (.bool false)))⟩,
     ⟨none, (some 6), .inl (.mv (.s 42))⟩])
   (.ret))
  (.skip)))
  (.seq (.region [⟨none, (some 9), .inl (.mv (.c (.slice none 0 0)))⟩])
  (.seq (.region [⟨none, (some 10), .inl (.mv (.c (.slice none 0 0)))⟩])
  (.seq (.seq (.region [⟨none, (some 43), .inl (.fa (.s 7) 0)⟩,
    ⟨none, (some 44), .inl (.ld false 1 (.s 43))⟩,
    ⟨none, (some 45), .inl (.len (.s 44))⟩,
    ⟨none, (some 46), .inl (.mv (.c (.int .i64 0)))⟩])
  (.block 0 (.loop k10l1)))
  k10w))))) := rfl
/-- A call in a drawn region whose answer holds no address, its arguments frozen. -/
theorem dcore_fzf {c : Cfg} {R : Rc} {base : Nat} (d : Option Nat) (f : FuncId) (args : List X) (wt : Nat) (e : List D) (h : Heap) (a : D) (l : List D) (bs : List D) (ks : List Nat) (o : D) (ho : o.flat = true) (hs' : c.pg.sh f = false) (hl : args.map (rd c.pg.gl e) = a :: l) (ha : each (frz h depth) (a :: l) = some (bs, ks)) (x : pureCall R f bs = some (.ret o)) :
    dcore c R base ⟨⟨none, d, .inr (.fn f args)⟩, some [], [], wt, false⟩ e h = some (o, h) := by
  have hk : h.kill (hids base e []) = h := by rw [hids_nil, kill_nil]
  have h1 : (ks.isEmpty || (Out.ret o).d.flat || mayKill base e [] [] false ks) = true := by
    show (ks.isEmpty || o.flat || _) = true
    rw [ho]; simp
  have h2 : thaw ks o h = h := by unfold thaw; rw [ho]; simp
  unfold dcore
  simp only [G.want, hs', Bool.false_eq_true, if_false, hk, hl, ha, pureA_cons, pureS, orS, x, h1, Out.isPan, Out.d, beq_self_eq_true, Bool.true_and, if_true, h2, ho, Bool.or_true, Bool.true_or, Bool.and_self]
/-- The loop over the marks that were kept. -/
def L2I (M : List Int) (y : Nat → Int) (a : List Nat) (L : List Dt) (d9 d18 : D) (lb : Nat) (k : Nat) (s : St) : Prop := ∃ (x : Env 284) (h : Heap) (i : Nat), s = ⟨x.l, h, []⟩ ∧ i + k = a.length ∧ x.v 18 = d18 ∧ x.v 269 = d9 ∧ x.v 270 = D.int a.length ∧ x.v 271 = D.int i ∧ h.get lb = some (.cells 58 (L.flatMap dtC)) ∧ lb < h.next ∧ GX 58 2 a.length ((fxF M y a).flatMap dtC) h d9 ∧ h.Fr
set_option maxHeartbeats 8000000 in
theorem ext_chk (M : List Int) (hl : M.length ≤ 64) (y : Nat → Int) (a : List Nat) (hal : a.length ≤ 64) (ha : ∀ q, q ∈ a → q < M.length) (L : List Dt) (hL : L.length = M.length) (hy : ∀ q, (h : q ∈ a) → yOf L (M[q]'(ha q h)) = y q) (d9 : D) (lb : Nat) : ∀ n, 200 ≤ n → ∀ k s, L2I M y a L d9 (.slr lb 0 M.length 2 (some M.length)) lb k s → Res (k10l2.ev ⟨pg, 284, none⟩ (rc pg n) s) (Rnd (L2I M y a L d9 (.slr lb 0 M.length 2 (some M.length)) lb) (fun x s => x = .exit 4 ∧ L2I M y a L d9 (.slr lb 0 M.length 2 (some M.length)) lb 0 s) k) := by
  rintro n hn k s ⟨x, h, i, rfl, hik, v18, v269, v270, v271, hg, hlb, gP, hf⟩
  by_cases hi : i < a.length
  · rcases gP with ⟨e, _⟩ | ⟨_, k9, rfl, g9, n9⟩
    · omega
    obtain ⟨q, hq⟩ : ∃ q, a[i] = q := ⟨_, rfl⟩
    have hqm : q ∈ a := by rw [← hq]; exact List.getElem_mem hi
    have hqn := ha q hqm
    obtain ⟨m, hm⟩ : ∃ m, M[q] = m := ⟨_, rfl⟩
    have hMq : M[q]?.getD 0 = m := by rw [List.getElem?_eq_getElem hqn, hm]; rfl
    have hyq := hy q hqm
    rw [hm] at hyq
    have w1 : IntKind.i64.wrap ((i : Int) + 1) = (i : Int) + 1 := wrap_i64 (by omega) (by omega)
    have hcc := fx_cell0 (M := M) (y := y) (show a[i]? = some q by rw [List.getElem?_eq_getElem hi, hq])
    have hc10 := hcc.1
    have hc11 := hcc.2
    rw [List.getD_eq_getElem?_getD, hMq] at hc10
    have hcl := fx_cells M y a
    have htd : ((fxF M y a).flatMap dtC).drop (i * 2) = [D.int m, D.int (y q)] ++ ((fxF M y a).flatMap dtC).drop (i * 2 + 2) := by
      obtain ⟨d1, d1'⟩ := List.getElem?_eq_some_iff.1 hc10
      obtain ⟨d2, d2'⟩ := List.getElem?_eq_some_iff.1 hc11
      rw [List.drop_eq_getElem_cons d1, List.drop_eq_getElem_cons d2, d1', d2']; rfl
    have hK2 : i * 2 + 2 ≤ a.length * 2 := by omega
    have nk9 : ∀ j, (k9 = h.next + j) = False := fun j => by simp; omega
    have nk9' : ∀ j, (h.next + j = k9) = False := fun j => by simp; omega
    have nlb' : ∀ j, (h.next + j = lb) = False := fun j => by simp; omega
    have nlb : ∀ j, (lb = h.next + j) = False := fun j => by simp; omega
    have hfr : ∀ j, h.raw (h.next + j) = none := fun j => hf _ (by omega)
    have s36 : pg.sh 36 = false := rfl
    have c36 := @yof_run L (by omega) m n (by omega)
    rw [hyq] at c36
    have c36d : ∀ (x' : Env 284) (b : Nat) (H : Heap) (wt : Nat), H.get lb = some (.cells 58 (L.flatMap dtC)) → x'.v 275 = .slr lb 0 M.length 2 (some M.length) → x'.v 277 = D.int m → dcore ⟨pg, 284, none⟩ (rc pg n) b ⟨⟨none, some 278, .inr (.fn 36 [.s 275, .s 277])⟩, some [], [], wt, false⟩ x'.l H = some (D.int (y q), H) := by
      intro x' b H wt hH u1 u2
      refine dcore_fzf _ _ _ _ _ _ (.slr lb 0 M.length 2 (some M.length)) [D.int m] [dtsD L, D.int m] [lb] _ rfl s36 (by simp [u1, u2]) ?_ c36
      have e1 := dts_frz L (n := M.length) (lb := lb) (h := H) hL.symm hH 21
      simp only [frz_slr] at e1
      simp [e1]
    simp [-beq_iff_eq, -bne_iff_ne, -beq_eq_false_iff_ne, -bne_eq_false_iff_eq, k10l2, v18, v269, v270, v271, hi, g9, hcl, htd, hK2, nk9, nlb, hg, hfr, D.cells, D.one, Nat.add_assoc, zer2, w1, c36d]
    exact ⟨k - 1, by omega, _, _, i + 1, rfl, by omega, by simp [v18], by simp [v269], by simp [v270], by simp, by simp [nlb, nlb', hg], by simp; omega, .inr ⟨by omega, k9, rfl, by simp [nk9, nk9', g9], by simp; omega⟩, by
      repeat' first | exact hf | apply Heap.Fr.bump | apply Heap.Fr.set
      all_goals first | omega | (simp <;> omega)⟩
  · simp [k10l2, v270, v271, hi]
    exact ⟨_, _, i, rfl, by omega, by simp [v18], by simp [v269], by simp [v270], by simp [v271], by simp [hg], by simp; omega, gP.keep (by simp) (fun q _ => by simp), hf.bump _⟩
theorem place_slf {M : List Int} (hM : Rise M) {i : Nat} (hi : i < M.length) : placeF M M[i] = i := by
  have hm : M[i] ∈ M := List.getElem_mem hi
  obtain ⟨h1, h2⟩ := place_at hm
  apply Decidable.byContradiction
  intro hne
  rcases Nat.lt_or_gt_of_ne hne with h | h
  · have := List.pairwise_iff_getElem.1 hM _ _ h1 hi h; omega
  · have := List.pairwise_iff_getElem.1 hM _ _ hi h1 h; omega
theorem xt_nil {l : List Clm} (h0 : chkF l = 0) (hb : badF l = false) : Xt l 0 [] (fun _ => 0) := by
  have c := clo_clsd h0 hb
  have hd : ∀ q, dtO (hasZ (marksF l)) [] q = true → q = 0 ∧ hasZ (marksF l) = true := fun q h => by
    unfold dtO at h
    simpa [and_comm] using h
  refine ⟨.nil, fun q h => (by simp at h), ⟨fun i j z h1 h2 h3 => ?_, fun j hj h => ?_⟩, fun _ => rfl, Nat.le_refl _⟩
  · obtain ⟨rfl, hz⟩ := hd i h1
    obtain ⟨rfl, _⟩ := hd j h2
    have hn := ((hasZ_pos h0).1 hz).2
    rw [c.diag 0 hn] at h3
    have := Option.some.inj h3
    omega
  · obtain ⟨rfl, hz⟩ := hd j h
    exact ⟨0, hj, h, by rw [c.diag 0 hj]; simp, by decide, by decide⟩
set_option maxHeartbeats 8000000 in
theorem ext_end (s38 : pg.sh 38 = true) (l : List Clm) (h0 : chkF l = 0) (hb : badF l = false) (a : List Nat) (y : Nat → Int) (hX : Xt l (marksF l).length a y) (x : Env 284) (h : Heap) (v0 : x.v 0 = clsD l) (g9 : GX 58 2 a.length ((fxF (marksF l) y a).flatMap dtC) h (x.v 9)) (hf : h.Fr) {m : Nat} (hm : 7000 ≤ m) :
    endK (rc pg m) [(.tmp 6, false, 0)] (k10w.ev ⟨pg, 284, none⟩ (rc pg m) ⟨x.l, h, []⟩) = some (.ret (D.bool true)) := by
  have hs := fun h => @sane_call m (by omega) h
  have hl := (chk_ok h0).2.2
  have hal := hX.len
  have hfr : ∀ j, h.raw (h.next + j) = none := fun j => hf _ (by omega)
  obtain ⟨lb, h1, e38, q1, q2, q3, q4, q5, q6⟩ := extend_sh l h0 hb a y hX.lt hX.asc (by omega) hX.ok hX.zero (pv := x.v 9) (h := h.bump 284) (g9.keep (by simp) (fun q _ => by simp)) (hf.bump _) (f := m) (by omega)
  have c38 := call_sh (pg := pg) s38 e38
  obtain ⟨k1, k2, k3⟩ := ex_full h0 hb hX.ok hX.zero
  have hLl : (lsF (marksF l) (exY l a y) (marksF l).length).length = (marksF l).length := lsF_len _ _ _
  have c23 := @rkeep_run l (lsF (marksF l) (exY l a y) (marksF l).length) (by omega) m (by omega)
  rw [k1] at c23
  have hy : ∀ q, (h : q ∈ a) → yOf (lsF (marksF l) (exY l a y) (marksF l).length) ((marksF l)[q]'(hX.lt q h)) = y q := fun q hq => by
    rw [yOf_ls _ _ (List.getElem_mem _), place_slf (marks_rise l), k2 q hq]
  obtain ⟨L, hL⟩ : ∃ L, L = lsF (marksF l) (exY l a y) (marksF l).length := ⟨_, rfl⟩
  rw [← hL] at q1 hLl c23 hy
  obtain ⟨d9, hd9⟩ : ∃ d9, x.v 9 = d9 := ⟨_, rfl⟩
  rw [hd9] at g9 c38
  have g9' : GX 58 2 a.length ((fxF (marksF l) y a).flatMap dtC) h1 d9 := g9.keep (by simp at q5; omega) (fun q hq => by unfold Heap.get; rw [q6 q (by simp; omega)]; simp)
  have s23 : pg.sh 23 = false := rfl
  have hz := dts_frz L (n := (marksF l).length) (lb := lb) (h := h1.bump 284) hLl.symm (by simpa using q1) 21
  simp only [frz_slr, Nat.reduceAdd, Heap.get_bump] at hz
  have c23h := callfz (pg := pg) (R := rc pg m) (f := 23) (a := clsD l) (args := [.slr lb 0 (marksF l).length 2 (some (marksF l).length)]) (bs := [clsD l, dtsD L]) (ks := [lb]) (h := h1.bump 284) s23 (by
    have hcl : D.canonL (l.map clD) = true := canonL_map clD cl_canon l
    have hk := fun n => each_canon (h1.bump 284) n _ hcl
    simp [clsD, hk, hz]) c23 rfl
  simp only [clsD] at c38 c23h v0
  rcases g9 with ⟨el, rfl⟩ | ⟨el, k9, rfl, _⟩
  · obtain rfl : a = [] := List.eq_nil_of_length_eq_zero el
    simp [-beq_iff_eq, -bne_iff_ne, -beq_eq_false_iff_ne, -bne_eq_false_iff_eq, k10w, v0, hd9, c38, c23h, D.cells, D.one, ev_loop]
    refine Res.endsAfter (lp_rule 200 (L2I (marksF l) y ([] : List Nat) L (.val (.slice none 0 0)) (.slr lb 0 (marksF l).length 2 (some (marksF l).length)) lb) _ (ext_chk (marksF l) hl y ([] : List Nat) (by first | omega | (simp; omega)) hX.lt L hLl hy (.val (.slice none 0 0)) lb) ([] : List Nat).length m _ (by first | omega | (simp; omega)) ⟨_, _, 0, rfl, by simp, by simp, by simp, by simp, by simp, by simp [q1], by simp; omega, (.inl ⟨rfl, rfl⟩), (q4.bump _).bump _⟩) ?_
    rintro x s ⟨rfl, x, h, j, rfl, hj, _⟩
    simp [hs]
  · skip
    simp [-beq_iff_eq, -bne_iff_ne, -beq_eq_false_iff_ne, -bne_eq_false_iff_eq, k10w, v0, hd9, c38, c23h, D.cells, D.one, ev_loop]
    refine Res.endsAfter (lp_rule 200 (L2I (marksF l) y a L (.slr k9 0 a.length 2 none) (.slr lb 0 (marksF l).length 2 (some (marksF l).length)) lb) _ (ext_chk (marksF l) hl y a (by first | omega | (simp; omega)) hX.lt L hLl hy (.slr k9 0 a.length 2 none) lb) a.length m _ (by first | omega | (simp; omega)) ⟨_, _, 0, rfl, by simp, by simp, by simp, by simp, by simp, by simp [q1], by simp; omega, (g9'.keep (by simp; omega) (fun q _ => by simp)), (q4.bump _).bump _⟩) ?_
    rintro x s ⟨rfl, x, h, j, rfl, hj, _⟩
    simp [hs]
set_option maxHeartbeats 8000000 in
theorem ext_law (s38 : pg.sh 38 = true) (l : List Clm) (kp p : List Int) (hkp : kp.length ≤ 4000000000000000000) (hp : p.length ≤ 4000000000000000000) {f : Nat} (hf : 8000 ≤ f) : pureCall (rc pg f) 10 [clsD l, .sl false (kp.map fun c => D.val (.int .u8 c)), intsD p] = some (.ret (D.bool true)) := by
  obtain ⟨m, rfl, e⟩ := body (pg := pg) (f := 10) (args := [clsD l, .sl false (kp.map fun c => D.val (.int .u8 c)), intsD p]) (show 0 < f by omega) rfl rfl
  rw [e]
  have hs := fun h => @sane_call m (by omega) h
  have c24 := fun h => call_of (h := h) (pg := pg) (f := 24) rfl (cls_canon l) (@close_run l m (by omega))
  by_cases he : cerF l = 0
  · obtain ⟨h0, hb⟩ := cer_ok he
    have hl := (chk_ok h0).2.2
    have e1 : cloD' l = .tup [nD (marksF l) (encM (cloF l)), D.int 0] := by unfold cloD'; rw [he]; rfl
    rw [e1] at c24
    simp only [clsD, nD, intsD, rowsD] at c24
    have hnn : (((marksF l).length : Int) != ((marksF l).length : Int)) = false := by simp
    simp [-beq_iff_eq, -bne_iff_ne, -beq_eq_false_iff_ne, -bne_eq_false_iff_eq, k10w_eq, Env.v_ini, clsD, intsD, D.cells, D.one, c24, hs, hnn, ev_loop]
    refine Res.endsAfter (lp_rule 200 (OX l kp p 291) _ (ext_rnd l h0 hb kp p hkp hp 291) (marksF l).length m _ (by omega) ⟨_, _, 0, [], fun _ => 0, rfl, by omega, by simp [Env.v_ini, clsD], by simp [Env.v_ini], by simp [Env.v_ini, intsD], by simp, by simp [intsD], by simp, by simp, xt_nil h0 hb, by simp [GX], by simp [GX], by simp [intsD, rowsD], by simp, ?_⟩) ?_
    · repeat' first | exact Heap.Fr.empty | apply Heap.Fr.bump | apply Heap.Fr.set
      all_goals first | omega | (simp <;> omega)
    · rintro x s ⟨rfl, x, h, j, a, y, rfl, hj, v0, v1, v2, v7, v44, v45, v46, hX, g9, g10, hg7, hb7, hf'⟩
      have hjl : j = (marksF l).length := by omega
      subst hjl
      simpa using ext_end s38 l h0 hb a y hX x h v0 g9 hf' (m := m) (by omega)
  · have he2 : (cerF l != 0) = true := by simpa using he
    have e1 : cloD' l = .tup [nilN, D.int (cerF l)] := by unfold cloD'; rw [if_neg he]
    rw [e1] at c24
    simp only [clsD, nilN] at c24
    simp [-bne_iff_ne, k10w_eq, Env.v_ini, clsD, intsD, D.cells, D.one, c24, he2, hs]
end Go.Proofs.YtjgafgkkpofgbaaDoor
