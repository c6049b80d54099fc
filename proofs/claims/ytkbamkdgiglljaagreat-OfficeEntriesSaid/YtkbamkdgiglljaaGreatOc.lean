/- A place as five bytes, written by the program. -/
import Derived.Test.YtkbamkdgiglljaaGreatOb
namespace Go.Proofs.YtkbamkdgiglljaaGreat
open Go Go.Em
set_option maxRecDepth 100000
def dA (o : Option (Out × Heap)) : Option (D × Heap) := match o with
  | some (.ret d, h') => some (d, h')
  | _ => none
@[simp] theorem dA_ret (d : D) (h : Heap) : dA (some (.ret d, h)) = some (d, h) := by unfold dA; rfl
theorem dcore_c {c : Cfg} {R : Rc} {base : Nat} (d : Option Nat) (f : FuncId) (args : List X) (wt : Nat) (e : List D) (h : Heap) :
    dcore c R base ⟨⟨none, d, .inr (.fn f args)⟩, none, [], wt, false⟩ e h = dA (call c.pg R f (args.map (rd c.pg.gl e)) h) := by
  unfold dcore dA
  simp only [G.want, Bool.false_eq_true, if_false, List.isEmpty_nil, Bool.true_or, if_true]
  rfl
set_option maxHeartbeats 2000000 in
theorem putP_sh {k o N : Nat} {cap : Option Nat} {ty : TypeId} {A M B : List D} {p q : Nat} {h0 : Heap} (hq : q < 4294967296) (hA : A.length = o) (hN : 5 ≤ N) (hM : M.length = 5) (hg : h0.get k = some (.cells ty (A ++ (M ++ B)))) (hk : k < h0.next) (hf : h0.Fr) {n : Nat} (hn : 30 ≤ n) :
    ∃ h, call pg (rc pg n) 34 [.slr k o N 1 cap, plD p q] h0 = some (.ret (.tup []), h) ∧ h.get k = some (.cells ty (A ++ (u1D (p % 256) :: fourN q ++ B))) ∧ (∀ z, z ≠ k → z < h0.next → h.raw z = h0.raw z) ∧ h0.next ≤ h.next ∧ h.Fr := by
  obtain ⟨m, rfl, e⟩ := fn_body (pg := pg) (n := n) (f := 34) (args := [.slr k o N 1 cap, plD p q]) (h := h0) (show 0 < n by omega) rfl rfl
  obtain ⟨m0, M', rfl⟩ : ∃ m0 M', M = m0 :: M' := by
    cases M with
    | nil => simp at hM
    | cons m M => exact ⟨_, _, rfl⟩
  have hM4 : M'.length = 4 := by simpa using hM
  have hfr : ∀ j, h0.raw (h0.next + j) = none := fun j => hf _ (by omega)
  have ne1 : ∀ j, (k = h0.next + j) = False := fun j => by simp; omega
  have ne2 : ∀ j, (h0.next + j = k) = False := fun j => by simp; omega
  have wp := wrap_u8n p
  have wq := wrap_u32 hq
  have hp := put_at (F := []) (m0 := m0) (d := .val (.int .u8 ((p : Int) % 256))) (M := M') (B := B) (j := 0) hA rfl
  simp only [List.nil_append, Nat.add_zero] at hp
  obtain ⟨C, hC⟩ : ∃ C, C = A ++ (m0 :: M' ++ B) := ⟨_, rfl⟩
  rw [← hC] at hg hp
  have hle : o + 1 ≤ C.length := by rw [hC]; simp [hA]
  have hN0 : 0 < N := by omega
  have hN1 : (1 : Int) ≤ (N : Int) := by omega
  have hN2 : ¬ (1 : Int) = (N : Int) := by omega
  obtain ⟨C2, hC2⟩ : ∃ C2, C2 = A ++ ([.val (.int .u8 ((p : Int) % 256))] ++ (M' ++ B)) := ⟨_, rfl⟩
  rw [← hC2] at hp
  simp only [plD] at e ⊢
  obtain ⟨H, hH⟩ : ∃ H : Heap, H = ((((h0.bump 15).set (h0.next + 3) (some (.cells 23 [D.int p, D.int q]))).bump 15).set k (some (.cells ty C2))).bump 15 := ⟨_, rfl⟩
  have g1 : H.get k = some (.cells ty ((A ++ [.val (.int .u8 ((p : Int) % 256))]) ++ (M' ++ B))) := by rw [hH]; simp [hC2]
  obtain ⟨h, c1, c2, c3, c4⟩ := putN_sh (cap := cap.map (· - 1)) (N := N - 1) (a := q) (h0 := H) (o := o + 1) (by simp [hA]) (show 4 ≤ N - 1 by omega) hM4 g1 (n := m) (by omega)
  refine ⟨h, call_sh rfl ?_, ?_, fun z hz hz2 => ?_, ?_, fun z hz => ?_⟩
  · rw [e]
    simp [k34, Env.v_ini, hg, hfr, ne1, ne2, wp, wq, hle, hp, hN0, hN1, hN2, dcore_c, D.cells, D.one, Value.oneCell', sliceR, upTo, mxOk, mxCap]
    rw [← hH]
    simp only [c1]
    simp
  · rw [c2]; simp
  · rw [c3 z hz, hH]
    have : (z = h0.next + 3) = False := by simp; omega
    simp [hz, this]
  · rw [hH] at c4; simp at c4; omega
  · by_cases hz2 : z = k
    · rw [hH] at c4; simp at c4; omega
    · rw [c3 z hz2, hH]
      rw [hH] at c4; simp at c4
      have : (z = h0.next + 3) = False := by simp; omega
      simp [hz2, this]
      exact hf z (by omega)
end Go.Proofs.YtkbamkdgiglljaaGreat
