/- Numbers as four bytes, written and read by the program and by the document. -/
import Derived.Test.YtkbamkdgiglljaaGreatOa
namespace Go.Proofs.YtkbamkdgiglljaaGreat
open Go Go.Em
set_option maxRecDepth 100000
theorem call_sh {pg : Pg} {R : Rc} {f : FuncId} {args : List D} {h h' : Heap} {o : Out} (hs : pg.sh f = true) (x : R.fn f args h = some (o, h')) : call pg R f args h = some (o, h') := by
  simp [call, hs, x]
def fourL (n : Nat) : List UInt8 := [UInt8.ofNat (n / 16777216), UInt8.ofNat (n / 65536), UInt8.ofNat (n / 256), UInt8.ofNat n]
def fourN (n : Nat) : List D := [u1D (n / 16777216 % 256), u1D (n / 65536 % 256), u1D (n / 256 % 256), u1D (n % 256)]
theorem fourN_eq (n : Nat) : fourN n = bL (fourL n) := by
  simp [fourN, fourL, bL]
def PnI (k o N : Nat) (cap : Option Nat) (ty : TypeId) (A B : List D) (a : Nat) (h0 : Heap) (i : Nat) (s : St) : Prop := ∃ (x : Env 18) (h : Heap) (j : Nat) (M : List D), s = ⟨x.l, h, []⟩ ∧ j + i = 4 ∧ x.v 0 = .slr k o N 1 cap ∧ x.v 1 = u4D a ∧ x.v 5 = D.int j ∧ h.get k = some (.cells ty (A ++ ((fourN a).take j ++ (M ++ B)))) ∧ M.length = 4 - j ∧ (∀ q, q ≠ k → h.raw q = h0.raw q) ∧ h0.next ≤ h.next
theorem put_at {A F : List D} {m0 d : D} {M B : List D} {o j : Nat} (hA : A.length = o) (hF : F.length = j) : (A ++ (F ++ (m0 :: M ++ B))).take (o + j) ++ d :: (A ++ (F ++ (m0 :: M ++ B))).drop (o + j + 1) = A ++ ((F ++ [d]) ++ (M ++ B)) := by
  have e1 : (A ++ (F ++ (m0 :: M ++ B))).take (o + j) = A ++ F := by
    rw [← List.append_assoc]; exact List.take_left' (by rw [List.length_append, hA, hF])
  have e2 : (A ++ (F ++ (m0 :: M ++ B))).drop (o + j + 1) = M ++ B := by
    rw [← List.append_assoc, show (A ++ F) ++ (m0 :: M ++ B) = ((A ++ F) ++ [m0]) ++ (M ++ B) by simp]
    exact List.drop_left' (by simp [hA, hF] <;> omega)
  rw [e1, e2]; simp
theorem four_step (a : Nat) {j : Nat} (hj : j < 4) : (fourN a).take (j + 1) = (fourN a).take j ++ [u1D (a / 2 ^ (24 - 8 * j) % 256)] := by
  obtain rfl | rfl | rfl | rfl : j = 0 ∨ j = 1 ∨ j = 2 ∨ j = 3 := by omega
  all_goals simp [fourN]
theorem pn_round (k o N : Nat) (cap : Option Nat) (ty : TypeId) (A B : List D) (a : Nat) (h0 : Heap) (hA : A.length = o) (hN : 4 ≤ N) : ∀ n, 1 ≤ n → ∀ i s, PnI k o N cap ty A B a h0 i s → Res (k35l0.ev ⟨pg, 18, none⟩ (rc pg n) s) (Rnd (PnI k o N cap ty A B a h0) (fun x s => x = .exit 0 ∧ PnI k o N cap ty A B a h0 0 s) i) := by
  rintro n hn i s ⟨x, h, j, M, rfl, hij, v0, v1, v5, g, hM, hq, n1⟩
  by_cases hj : j < 4
  · obtain ⟨t, ht⟩ : ∃ t : Nat, t = 24 - 8 * j := ⟨_, rfl⟩
    have w1 : IntKind.i64.wrap (8 * (j : Int)) = 8 * (j : Int) := wrap_i64 (by omega) (by omega)
    have w2 : IntKind.i64.wrap (24 - 8 * (j : Int)) = (t : Int) := by rw [wrap_i64 (by omega) (by omega)]; omega
    have w3 : IntKind.i64.wrap ((j : Int) + 1) = (j : Int) + 1 := wrap_i64 (by omega) (by omega)
    have hb : bin .shr (.int .u32 (a : Int)) (.int .i64 (t : Int)) = some (.int .u32 ((a / 2 ^ t : Nat) : Int)) := bin_shr32 (by omega)
    have hst := four_step a hj
    rw [← ht] at hst
    obtain ⟨q, hqd⟩ : ∃ q, q = a / 2 ^ t := ⟨_, rfl⟩
    rw [← hqd] at hb hst
    have wq := wrap_u8n q
    obtain ⟨m0, M', rfl⟩ : ∃ m0 M', M = m0 :: M' := by
      cases M with
      | nil => simp at hM; omega
      | cons m M => exact ⟨_, _, rfl⟩
    have hF : ((fourN a).take j).length = j := by simp [fourN]; omega
    have hu : u1D (q % 256) = .val (.int .u8 ((q : Int) % 256)) := by simp
    rw [hu] at hst
    have hp := put_at (m0 := m0) (d := .val (.int .u8 ((q : Int) % 256))) (M := M') (B := B) hA hF
    obtain ⟨C, hC⟩ : ∃ C, C = A ++ ((fourN a).take j ++ (m0 :: M' ++ B)) := ⟨_, rfl⟩
    rw [← hC] at g hp
    have hle : o + j + 1 ≤ C.length := by rw [hC]; simp [hA, hF]; omega
    have hlt : (j : Int) < (N : Int) := by omega
    have hj4 : (j : Int) < 4 := by omega
    have hlt' : j < N := by omega
    simp [k35l0, v0, v1, v5, hj, w1, w2, hb, wq, g, hle, hj4, hlt', hp, D.cells, D.one, Value.oneCell', w3]
    exact ⟨i - 1, by omega, _, _, j + 1, M', rfl, by omega, by simp [v0], by simp [v1], by simp, by simp [hst], by simp at hM; omega, fun z hz => by simp [hz, hq z hz], by simp; omega⟩
  · obtain rfl : j = 4 := by omega
    simp [k35l0, v5]
    exact ⟨_, _, 4, M, rfl, by omega, by simp [v0], by simp [v1], by simp [v5], by simp [g], hM, fun z hz => by simp [hq z hz], by simp; omega⟩
theorem putN_sh {k o N : Nat} {cap : Option Nat} {ty : TypeId} {A M B : List D} {a : Nat} {h0 : Heap} (hA : A.length = o) (hN : 4 ≤ N) (hM : M.length = 4) (hg : h0.get k = some (.cells ty (A ++ (M ++ B)))) {n : Nat} (hn : 20 ≤ n) :
    ∃ h, call pg (rc pg n) 35 [.slr k o N 1 cap, u4D a] h0 = some (.ret (.tup []), h) ∧ h.get k = some (.cells ty (A ++ (fourN a ++ B))) ∧ (∀ q, q ≠ k → h.raw q = h0.raw q) ∧ h0.next ≤ h.next := by
  obtain ⟨m, rfl, e⟩ := fn_body (pg := pg) (n := n) (f := 35) (args := [.slr k o N 1 cap, u4D a]) (h := h0) (show 0 < n by omega) rfl rfl
  obtain ⟨y, s, e1, rfl, x, h, j, M', rfl, hj, v0, v1, v5, g, hM', hq, n1⟩ := lp_rule 1 (PnI k o N cap ty A B a h0) _ (pn_round k o N cap ty A B a h0 hA hN) 4 m ⟨((Env.ini 18 [.slr k o N 1 cap, u4D a]).upd 5 (D.int 0)).l, h0.bump 18, []⟩ (by omega) ⟨_, _, 0, M, rfl, by omega, by simp [Env.v_ini], by simp [Env.v_ini], by simp, by simp [hg], by omega, fun q hq => by simp, by simp⟩
  obtain rfl : j = 4 := by omega
  obtain rfl : M' = [] := List.eq_nil_of_length_eq_zero (by omega)
  refine ⟨h, call_sh rfl ?_, ?_, hq, n1⟩
  · rw [e]
    simp [k35, ev_loop, e1]
  · rw [g]; simp [fourN]
end Go.Proofs.YtkbamkdgiglljaaGreat
