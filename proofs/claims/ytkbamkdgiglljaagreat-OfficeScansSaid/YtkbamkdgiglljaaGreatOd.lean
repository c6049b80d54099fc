/- The bytes of an entry, written by the program. -/
import Derived.Test.YtkbamkdgiglljaaGreatOa
namespace Go.Proofs.YtkbamkdgiglljaaGreat
open Go Go.Em
set_option maxRecDepth 100000
theorem chunk_one : ∀ (l : List D) (m : Nat), m = l.length → chunk 1 m l = l
  | [], m, h => by subst h; rfl
  | d :: l, m, h => by
    subst h
    simp only [List.length_cons, chunk, if_true, List.drop_succ_cons, List.drop_zero, chunk_one l _ rfl]
    rfl
theorem zeros_rep (n : Nat) : zerosD [Value.int .u8 0] 1 n = List.replicate n (.val (.int .u8 0)) := by
  rw [List.eq_replicate_iff]
  refine ⟨by simp [zerosD], fun b hb => ?_⟩
  obtain ⟨j, _, rfl⟩ := List.mem_map.1 hb
  rw [Nat.mod_one]; rfl
theorem frz_bytes {h : Heap} {k N : Nat} {cap : Option Nat} {ty : TypeId} {l : List UInt8} (hg : h.get k = some (.cells ty (bL l))) (hN : N = l.length) (n : Nat) : frz h (n + 2) (.slr k 0 N 1 cap) = some (bD l, [k]) := by
  subst hN
  show frz h ((n + 1) + 1) _ = _
  unfold frz
  have h1 : ((bL l).drop 0).take (l.length * 1) = bL l := by rw [List.drop_zero, Nat.mul_one, List.take_of_length_le (by rw [bL_len]; exact Nat.le_refl _)]
  have h2 : each (frz h (n + 1)) (bL l) = some (bL l, []) := each_canon h n _ (bL_can l)
  simp only [D.canon, Bool.false_eq_true, if_false, hg, h1, h2, Option.map_some]
  rw [if_pos (by rw [bL_len]; omega), chunk_one _ _ (bL_len l).symm]
  rfl
theorem out_bytes {h : Heap} {k N : Nat} {cap : Option Nat} {ty : TypeId} {l : List UInt8} (hg : h.get k = some (.cells ty (bL l))) (hN : N = l.length) (e : Int) : out1 (some (.ret (.tup [.slr k 0 N 1 cap, D.int e]), h)) = some (.ret (.tup [bD l, D.int e])) := by
  have h1 := frz_bytes (cap := cap) hg hN 21
  have h2 : frz h 23 (D.int e) = some (D.int e, []) := by unfold frz; exact if_pos rfl
  have h3 : frz h depth (.tup [.slr k 0 N 1 cap, D.int e]) = some (.tup [bD l, D.int e], [k]) := by
    show frz h (23 + 1) _ = _
    unfold frz
    rw [if_neg (by simp)]
    show Option.map _ (match frz h 23 (.slr k 0 N 1 cap), (match frz h 23 (D.int e), (some ([], []) : Option (List D × List Nat)) with | some (d, a), some (l, b) => some (d :: l, a ++ b) | _, _ => none) with | some (d, a), some (l, b) => some (d :: l, a ++ b) | _, _ => none) = _
    rw [h1, h2]; rfl
  unfold out1
  simp only [h3, Option.map_some]
def p5 (o s : Nat) : List D := u1D (o % 256) :: fourN s
def p6 (o s k : Nat) : List D := p5 o s ++ [u1D (k % 256)]
def p10 (o s k h : Nat) : List D := p6 o s k ++ fourN h
def p11 (o s k h r : Nat) : List D := p10 o s k h ++ [u1D (r % 256)]
def p16 (o s k h r fo fs : Nat) : List D := p11 o s k h r ++ p5 fo fs
def p20 (o s k h r fo fs n : Nat) : List D := p16 o s k h r fo fs ++ fourN n
def e20 (o s k h r fo fs n : Nat) : List UInt8 := UInt8.ofNat o :: (fourL s ++ UInt8.ofNat k :: (fourL h ++ UInt8.ofNat r :: UInt8.ofNat fo :: (fourL fs ++ fourL n)))
theorem p20_eq (o s k h r fo fs n : Nat) : p20 o s k h r fo fs n = bL (e20 o s k h r fo fs n) := by
  simp only [p20, p16, p11, p10, p6, p5, fourN_eq, e20, bL, List.map_append, List.map_cons, List.map_nil, List.append_assoc, List.cons_append, List.nil_append, UInt8.toNat_ofNat']
theorem one_byte {P L C C' : List D} {i : Nat} {d : D} (hP : P.length = i) (hL : i < L.length) (hC : C = P ++ L.drop i) (hC' : C' = (P ++ [d]) ++ L.drop (i + 1)) : C.take i ++ d :: C.drop (i + 1) = C' := by
  subst hC hC'
  have e : L.drop i = L[i] :: L.drop (i + 1) := List.drop_eq_getElem_cons hL
  have := put_at (A := P) (F := []) (m0 := L[i]) (d := d) (M := L.drop (i + 1)) (B := []) (o := i) (j := 0) hP rfl
  rw [e]
  simpa using this
set_option maxHeartbeats 8000000 in
theorem encode_ok (o s k h r fo fs : Nat) (t : List UInt8) (hs : s < 4294967296) (hh : h < 4294967296) (hfs : fs < 4294967296) (ht : t.length ≤ 8000) (hok : okF ⟨o, s, k, h, r, fo, fs, t⟩ = true) {n : Nat} (hn : 100 ≤ n) :
    pureCall (rc pg n) 7 [entD ⟨o, s, k, h, r, fo, fs, t⟩] = some (.ret (.tup [bD (e20 o s k h r fo fs t.length ++ t), D.int 0])) := by
  obtain ⟨m, rfl, e⟩ := body (pg := pg) (f := 7) (args := [entD ⟨o, s, k, h, r, fo, fs, t⟩]) (show 0 < n by omega) rfl rfl
  rw [e]
  have hc := fun h' => call_of (h := h') (pg := pg) (f := 13) rfl (entD_can ⟨o, s, k, h, r, fo, fs, t⟩) (check_run (n := m) (by omega) ⟨o, s, k, h, r, fo, fs, t⟩)
  rw [hok] at hc
  simp only [entD, entL, strD, erI, if_true] at hc ⊢
  obtain ⟨N, hN⟩ : ∃ N, N = 20 + t.length := ⟨_, rfl⟩
  have w1 : IntKind.i64.wrap (20 + (t.length : Int)) = (N : Int) := by rw [wrap_i64 (by omega) (by omega)]; omega
  have hr : (N : Int) ≤ (room : Int) := by unfold room; omega
  obtain ⟨L, hL, hLl⟩ : ∃ L, L = zerosD [Value.int .u8 0] 1 N ∧ L.length = N := ⟨_, rfl, by rw [zeros_rep]; simp⟩
  have b0 : (0 : Int) ≤ N := by omega
  simp [k7, Env.v_ini, hc, D.cells, D.one, Value.oneCell', str_size, w1, hr, b0, ← hL, sliceR, upTo, mxOk, mxCap, dcore_c]
  have l5 : (L.take 5).length = 5 := by rw [List.length_take]; omega
  obtain ⟨X, hX⟩ : ∃ X : List D, X = [D.int o, D.int s, D.int k, D.int h, D.int r, D.int fo, D.int fs, .val (.string ⟨t.toArray⟩)] := ⟨_, rfl⟩
  obtain ⟨H1, hH1⟩ : ∃ H : Heap, H = ((((((Heap.empty.bump 55).set 1 (some (.cells 25 [D.int o, D.int s, D.int k, D.int h, D.int r, D.int fo, D.int fs, .val (.string ⟨t.toArray⟩)]))).bump 55).bump 55).bump 55).set 180 (some (.cells 5 L))).bump 55 := ⟨_, rfl⟩
  rw [← hH1]
  have fH1 : H1.Fr := by
    rw [hH1]
    repeat' first | exact Heap.Fr.empty | apply Heap.Fr.bump | apply Heap.Fr.set
    all_goals simp
  have nH1 : H1.next = 275 := by rw [hH1]; simp
  have gH1 : H1.get 180 = some (.cells 5 ([] ++ (L.take 5 ++ L.drop 5))) := by rw [hH1]; simp
  have eH1 : H1.get 1 = some (.cells 25 X) := by rw [hH1, hX]; simp
  obtain ⟨h1, c1, g1, r1, n1, f1⟩ := putP_sh (o := 0) (cap := some N) (N := N) (p := o) (q := s) hs (A := []) rfl (show 5 ≤ N by omega) l5 gH1 (by omega) fH1 (n := m) (by omega)
  simp only [plD] at c1
  simp only [c1]
  have e1 : h1.get 1 = some (.cells 25 X) := by unfold Heap.get at eH1 ⊢; rw [r1 1 (by omega) (by omega)]; exact eH1
  have hu : ∀ a : Nat, u1D (a % 256) = .val (.int .u8 ((a : Int) % 256)) := fun a => by simp
  have lp5 : (p5 o s).length = 5 := rfl
  have lp6 : (p6 o s k).length = 6 := rfl
  have lp10 : (p10 o s k h).length = 10 := rfl
  have lp11 : (p11 o s k h r).length = 11 := rfl
  have lp16 : (p16 o s k h r fo fs).length = 16 := rfl
  have lp20 : (p20 o s k h r fo fs t.length).length = 20 := rfl
  obtain ⟨C1, hC1⟩ : ∃ C, C = p5 o s ++ L.drop 5 := ⟨_, rfl⟩
  have g1 : h1.get 180 = some (.cells 5 C1) := by rw [g1, hC1]; rfl
  obtain ⟨C2, hC2⟩ : ∃ C, C = p6 o s k ++ L.drop 6 := ⟨_, rfl⟩
  have s1 : C1.take 5 ++ .val (.int .u8 ((k : Int) % 256)) :: C1.drop 6 = C2 := one_byte (L := L) (i := 5) lp5 (by omega) hC1 (by rw [hC2, p6, hu])
  have lC1 : 6 ≤ C1.length := by rw [hC1]; simp [lp5]; omega
  have wk := wrap_u8n k
  have N6 : (6 : Int) ≤ N := by omega
  have N6' : ¬ (6 : Int) = N := by omega
  have N5 : (5 : Int) < N := by omega
  have wh := wrap_u32 hh
  rw [hX] at e1
  simp [g1, e1, wk, s1, lC1, N6, N6', N5, wh, D.cells, D.one, Value.oneCell', sliceR, upTo, mxOk, mxCap, dcore_c]
  obtain ⟨H2, hH2⟩ : ∃ H : Heap, H = ((h1.bump 55).set 180 (some (.cells 5 C2))).bump 55 := ⟨_, rfl⟩
  rw [← hH2]
  have fH2 : H2.Fr := by
    rw [hH2]
    repeat' first | exact f1 | apply Heap.Fr.bump | apply Heap.Fr.set
    simp; omega
  have nH2 : 275 ≤ H2.next := by rw [hH2]; simp; omega
  have gH2 : H2.get 180 = some (.cells 5 (p6 o s k ++ ((L.drop 6).take 4 ++ L.drop 10))) := by
    rw [hH2]
    have : L.drop 6 = (L.drop 6).take 4 ++ L.drop 10 := by
      have := (List.take_append_drop 4 (L.drop 6)).symm
      rw [List.drop_drop] at this
      exact this
    simp [hC2, ← this]
  have eH2 : H2.get 1 = some (.cells 25 X) := by rw [hH2, hX]; simp [e1]
  have l6 : ((L.drop 6).take 4).length = 4 := by simp; omega
  obtain ⟨h2, c2, g2, r2, n2⟩ := putN_sh (o := 6) (cap := some (N - 6)) (N := N - 6) (a := h) lp6 (show 4 ≤ N - 6 by omega) l6 gH2 (n := m) (by omega)
  simp only [c2]
  have f2 : h2.Fr := fun z hz => by
    by_cases hz2 : z = 180
    · omega
    · rw [r2 z hz2]; exact fH2 z (by omega)
  have e2 : h2.get 1 = some (.cells 25 X) := by unfold Heap.get at eH2 ⊢; rw [r2 1 (by omega)]; exact eH2
  obtain ⟨C3, hC3⟩ : ∃ C, C = p10 o s k h ++ L.drop 10 := ⟨_, rfl⟩
  have g2 : h2.get 180 = some (.cells 5 C3) := by rw [g2, hC3, p10]; simp
  obtain ⟨C4, hC4⟩ : ∃ C, C = p11 o s k h r ++ L.drop 11 := ⟨_, rfl⟩
  have s2 : C3.take 10 ++ .val (.int .u8 ((r : Int) % 256)) :: C3.drop 11 = C4 := one_byte (L := L) (i := 10) lp10 (by omega) hC3 (by rw [hC4, p11, hu])
  have lC3 : 11 ≤ C3.length := by rw [hC3]; simp [lp10]; omega
  have wr := wrap_u8n r
  have N11 : (11 : Int) ≤ N := by omega
  have N11' : ¬ (11 : Int) = N := by omega
  have N10 : (10 : Int) < N := by omega
  rw [hX] at e2
  simp [g2, e2, wr, s2, lC3, N11, N11', N10, D.cells, D.one, Value.oneCell', sliceR, upTo, mxOk, mxCap, dcore_c]
  obtain ⟨H3, hH3⟩ : ∃ H : Heap, H = ((h2.bump 55).set 180 (some (.cells 5 C4))).bump 55 := ⟨_, rfl⟩
  rw [← hH3]
  have fH3 : H3.Fr := by
    rw [hH3]
    repeat' first | exact f2 | apply Heap.Fr.bump | apply Heap.Fr.set
    simp; omega
  have nH3 : 275 ≤ H3.next := by rw [hH3]; simp; omega
  have gH3 : H3.get 180 = some (.cells 5 (p11 o s k h r ++ ((L.drop 11).take 5 ++ L.drop 16))) := by
    rw [hH3]
    have : L.drop 11 = (L.drop 11).take 5 ++ L.drop 16 := by
      have := (List.take_append_drop 5 (L.drop 11)).symm
      rw [List.drop_drop] at this
      exact this
    simp [hC4, ← this]
  have eH3 : H3.get 1 = some (.cells 25 X) := by rw [hH3, hX]; simp [e2]
  have l11 : ((L.drop 11).take 5).length = 5 := by simp; omega
  obtain ⟨h3, c3, g3, r3, n3, f3⟩ := putP_sh (o := 11) (cap := some (N - 11)) (N := N - 11) (p := fo) (q := fs) hfs lp11 (show 5 ≤ N - 11 by omega) l11 gH3 (by omega) fH3 (n := m) (by omega)
  simp only [plD] at c3
  simp only [c3]
  have e3 : h3.get 1 = some (.cells 25 X) := by unfold Heap.get at eH3 ⊢; rw [r3 1 (by omega) (by omega)]; exact eH3
  obtain ⟨C5, hC5⟩ : ∃ C, C = p16 o s k h r fo fs ++ L.drop 16 := ⟨_, rfl⟩
  have g3 : h3.get 180 = some (.cells 5 C5) := by rw [g3, hC5, p16]; simp [p5]
  have N16 : (16 : Int) ≤ N := by omega
  have N16' : ¬ (16 : Int) = N := by omega
  have wt := wrap_u32 (show t.length < 4294967296 by omega)
  rw [hX] at e3
  simp [g3, e3, wt, N16, N16', D.cells, D.one, Value.oneCell', sliceR, upTo, mxOk, mxCap, dcore_c, str_size]
  have fH4 : (h3.bump 55).Fr := f3.bump 55
  have gH4 : (h3.bump 55).get 180 = some (.cells 5 (p16 o s k h r fo fs ++ ((L.drop 16).take 4 ++ L.drop 20))) := by
    have : L.drop 16 = (L.drop 16).take 4 ++ L.drop 20 := by
      have := (List.take_append_drop 4 (L.drop 16)).symm
      rw [List.drop_drop] at this
      exact this
    simp [g3, hC5, ← this]
  have l16 : ((L.drop 16).take 4).length = 4 := by simp; omega
  obtain ⟨h4, c4, g4, r4, n4⟩ := putN_sh (o := 16) (cap := some (N - 16)) (N := N - 16) (a := t.length) lp16 (show 4 ≤ N - 16 by omega) l16 gH4 (n := m) (by omega)
  simp only [c4]
  have e4 : h4.get 1 = some (.cells 25 X) := by
    have : (h3.bump 55).get 1 = some (.cells 25 X) := by rw [hX]; simp [e3]
    unfold Heap.get at this ⊢; rw [r4 1 (by omega)]; exact this
  obtain ⟨C6, hC6⟩ : ∃ C, C = p20 o s k h r fo fs t.length ++ L.drop 20 := ⟨_, rfl⟩
  have g4 : h4.get 180 = some (.cells 5 C6) := by rw [g4, hC6, p20]; simp
  have lC6 : C6.length = N := by rw [hC6]; simp [lp20]; omega
  have t6 : C6.take 20 = p20 o s k h r fo fs t.length := by rw [hC6]; exact List.take_left' lp20
  have N20 : (20 : Int) ≤ N := by omega
  have hm : N - 20 = t.length := by omega
  have fin : p20 o s k h r fo fs t.length ++ bL t = bL (e20 o s k h r fo fs t.length ++ t) := by rw [p20_eq, bL_app]
  have fil : N = (e20 o s k h r fo fs t.length ++ t).length := by simp [e20, fourL]; omega
  rw [hX] at e4
  by_cases h0 : (20 : Int) = N
  · have ht0 : t = [] := List.eq_nil_of_length_eq_zero (by omega)
    have g5 : h4.get 180 = some (.cells 5 (bL (e20 o s k h r fo fs t.length ++ t))) := by
      rw [g4, ← fin, hC6, ht0, List.drop_eq_nil_of_le (by omega)]; rfl
    simp [-out1, g4, e4, N20, ← h0, D.cells, D.one, Value.oneCell', sliceR, upTo, mxOk, mxCap, str_size, src, bL_str, bL_one, bL_len]
    exact out_bytes (ty := 5) (by simp [g5]) fil 0
  · have le6 : 20 + t.length ≤ C6.length := by omega
    have tt : (bL t).take t.length = bL t := List.take_of_length_le (by rw [bL_len]; exact Nat.le_refl _)
    have dd : C6.drop (20 + t.length) = [] := List.drop_eq_nil_of_le (by omega)
    simp [-out1, g4, e4, N20, h0, hm, le6, tt, dd, D.cells, D.one, Value.oneCell', sliceR, upTo, mxOk, mxCap, str_size, src, bL_str, bL_one, bL_len, t6]
    exact out_bytes (ty := 5) (by simp [fin]) fil 0
end Go.Proofs.YtkbamkdgiglljaaGreat
