/- The bytes of an entry, by the program and by the document. -/
import Derived.Test.YtkbamkdgiglljaaGreatOd
namespace Go.Proofs.YtkbamkdgiglljaaGreat
open Go Go.Em
set_option maxRecDepth 100000
theorem sut_nat {x : Ent} (h : sutF x = true) : (0 ≤ x.fo ∧ x.fo ≤ 7) ∧ (0 ≤ x.fs ∧ x.fs ≤ 9999) ∧ x.t.length ≤ 8000 ∧ 1 ≤ x.k ∧ x.k ≤ 9 := by
  unfold sutF at h
  by_cases h1 : inR x.k 1 5 = true
  · rw [if_pos h1] at h
    rw [inR_iff] at h1
    simp at h
    omega
  · rw [if_neg h1] at h
    simp only [Bool.and_eq_true, plF, inR_iff, decide_eq_true_eq] at h
    obtain ⟨⟨h2, h3, h4⟩, h5⟩ := h
    have : x.t.length ≤ 8000 := by split at h5 <;> omega
    omega
theorem ok_nat {x : Ent} (h : okF x = true) : ∃ o s k h r fo fs : Nat, x = ⟨o, s, k, h, r, fo, fs, x.t⟩ ∧ o ≤ 7 ∧ s ≤ 9999 ∧ 1 ≤ k ∧ k ≤ 9 ∧ h ≤ 100000 ∧ r ≤ 99 ∧ fo ≤ 7 ∧ fs ≤ 9999 ∧ x.t.length ≤ 8000 := by
  unfold okF at h
  simp only [Bool.and_eq_true, plF, inR_iff] at h
  obtain ⟨⟨⟨⟨h1, h2⟩, h3⟩, h4⟩, h5⟩ := h
  obtain ⟨a1, a2, a3, a4⟩ := sut_nat h3
  obtain ⟨o, s, k, hh, r, fo, fs, t⟩ := x
  simp only at *
  obtain ⟨o, rfl⟩ := Int.eq_ofNat_of_zero_le h1.1
  obtain ⟨s, rfl⟩ := Int.eq_ofNat_of_zero_le h2.1
  obtain ⟨k, rfl⟩ := Int.eq_ofNat_of_zero_le (show 0 ≤ k by omega)
  obtain ⟨hh, rfl⟩ := Int.eq_ofNat_of_zero_le h4.1
  obtain ⟨r, rfl⟩ := Int.eq_ofNat_of_zero_le h5.1
  obtain ⟨fo, rfl⟩ := Int.eq_ofNat_of_zero_le a1.1
  obtain ⟨fs, rfl⟩ := Int.eq_ofNat_of_zero_le a2.1
  exact ⟨o, s, k, hh, r, fo, fs, rfl, by omega, by omega, by omega, by omega, by omega, by omega, by omega, by omega, a3⟩
def e20x (x : Ent) : List UInt8 := e20 x.o.toNat x.s.toNat x.k.toNat x.h.toNat x.r.toNat x.fo.toNat x.fs.toNat x.t.length
def encL (x : Ent) : List UInt8 := if okF x = true then e20x x ++ x.t else []
def encR (x : Ent) : D := .tup [bD (encL x), erI (okF x) 80]
theorem encode_run {n : Nat} (hn : 100 ≤ n) (x : Ent) : pureCall (rc pg n) 7 [entD x] = some (.ret (encR x)) := by
  unfold encR encL erI
  cases hok : okF x with
  | true =>
    obtain ⟨o, s, k, h, r, fo, fs, hx, b1, b2, b3, b4, b5, b6, b7, b8, b9⟩ := ok_nat hok
    rw [hx] at hok
    have := encode_ok o s k h r fo fs x.t (by omega) (by omega) (by omega) b9 hok hn
    rw [← hx] at this
    rw [this]
    have e : e20x x = e20 o s k h r fo fs x.t.length := by rw [hx]; rfl
    simp [e]
  | false =>
    obtain ⟨m, rfl, e⟩ := body (pg := pg) (f := 7) (args := [entD x]) (show 0 < n by omega) rfl rfl
    rw [e]
    have hc := fun h' => call_of (h := h') (pg := pg) (f := 13) rfl (entD_can x) (check_run (n := m) (by omega) x)
    rw [hok] at hc
    simp only [entD, entL, strD, erI] at hc ⊢
    simp [k7, Env.v_ini, hc, D.cells, D.one, Value.oneCell', bD, bL]
theorem out_b {h : Heap} {k N : Nat} {cap : Option Nat} {ty : TypeId} {l : List UInt8} (hg : h.get k = some (.cells ty (bL l))) (hN : N = l.length) : out1 (some (.ret (.slr k 0 N 1 cap), h)) = some (.ret (bD l)) := by
  have h1 : frz h depth (.slr k 0 N 1 cap) = _ := frz_bytes (cap := cap) hg hN 22
  unfold out1
  simp only [h1, Option.map_some]
theorem src_bL (h : Heap) (z : Bool) (l : List UInt8) : src h 1 (.sl z (bL l)) = some (l.length, bL l) := by
  show (if ((bL l).all fun e => e.cells.length == 1) = true then some ((bL l).length, (bL l).flatMap D.cells) else none) = _
  rw [if_pos (bL_all1 l), bL_cells, bL_len]
theorem ap_over {t m n c k : Nat} {h : Heap} {cs news : List D} (hl : cs.length = n) (hc : ¬ n + m ≤ c) (hr : n + m ≤ 1000000000) : appS t 5 1 1 h m news k 0 n 1 (some c) (some (.cells 5 cs)) = (h.alloc t (.cells 5 (cs ++ news))).map fun h => (.slr t 0 (n + m) 1 none, h) := by
  subst hl
  unfold appS
  have h1 : (cs.length + m) * 1 ≤ room ∧ cs.length + m ≤ maxLen := by unfold room maxLen; omega
  have e1 : (cs.drop 0).take (cs.length * 1) = cs := by simp
  simp only [Nat.zero_add, Nat.mul_one, Nat.le_refl, hc, if_false, true_and, e1]
  rw [Nat.mul_one] at h1 e1
  rw [if_pos h1, e1]
theorem ap_none {t m n k : Nat} {h : Heap} {cs news : List D} (hl : cs.length = n) (hm : 0 < m) (hr : n + m ≤ 1000000000) : appS t 5 1 1 h m news k 0 n 1 none (some (.cells 5 cs)) = ((h.set k none).alloc t (.cells 5 (cs ++ news))).map fun h => (.slr t 0 (n + m) 1 none, h) :=
  appS_none (by omega) (by omega) (by unfold room; omega) (by unfold maxLen; omega)
end Go.Proofs.YtkbamkdgiglljaaGreat
