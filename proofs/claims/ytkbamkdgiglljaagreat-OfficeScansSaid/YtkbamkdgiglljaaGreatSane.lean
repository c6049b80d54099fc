/- The check of examples that each law runs answers true: the kernel runs what it calls, piece by piece. -/
import Derived.Test.YtkbamkdgiglljaaGreatT4
import Derived.Test.YtkbamkdgiglljaaGreatWa
namespace Go.Proofs.YtkbamkdgiglljaaGreat
open Go Go.Em
set_option maxRecDepth 100000
def esD : List D := [q1, q2, q3, q4, q6, q5]
def rst (a b : Int) (e : Int) : D := .tup [.agg [D.int a, D.int b], D.int e]
theorem k49_t (R : Rc) : pureT (rcT pg tb4 R 100) 49 = some (.ret (.sl true esD)) := by kernel_rfl
theorem k50a_t (R : Rc) : pureCall (rcT pg tb4 R 100) 50 [.agg [q7], .agg [D.int 0, D.int 0], D.int 9] = some (.ret (rst 0 1 0)) := by kernel_rfl
theorem k50b_t (R : Rc) : pureCall (rcT pg tb4 R 100) 50 [.agg [q7], .agg [D.int 0, D.int 0], D.int 10] = some (.ret (rst 0 0 0)) := by kernel_rfl
theorem k50c_t (R : Rc) : pureCall (rcT pg tb4 R 100) 50 [.agg [q7], .agg [D.int 0, D.int 0], D.int 8] = some (.ret (rst 0 0 4)) := by kernel_rfl
def shD : D := .agg [q8, .sl false [], .sl false [], .sl false []]
def stD : D := .agg [.sl false [], D.int 0, D.int 1]
theorem k51_t (R : Rc) : pureT (rcT pg tb4 R 100) 51 = some (.ret (.tup [shD, stD])) := by kernel_rfl
def an1 : D := (.agg [q8, (.sl false [(U8 (0)), (U8 (0)), (U8 (0)), (U8 (20)), (U8 (199)), (U8 (121)), (U8 (236)), (U8 (39)), (U8 (0)), (U8 (0)), (U8 (0)), (U8 (0)), (U8 (0)), (U8 (1)), (U8 (0)), (U8 (0)), (U8 (0)), (U8 (5)), (U8 (0)), (U8 (0)), (U8 (0)), (U8 (0)), (U8 (0)), (U8 (0)), (U8 (0)), (U8 (0)), (U8 (0)), (U8 (0))]), (.sl false []), (.sl false [])])
def an2 : D := (.agg [(.sl false [q1]), I 0, I 1])
theorem k52_t (R : Rc) : pureCall (rcT pg tb4 R 100) 52 [shD, stD, q1] = some (.ret (.tup [an1, an2, D.int 0])) := by kernel_rfl
theorem k54_t (R : Rc) : pureCall (rcT pg tb4 R 100) 54 [.agg [q7], D.int 8] = some (.ret (.sl false [D.int 2])) := by kernel_rfl
theorem k53_t (R : Rc) : pureCall (rcT pg tb4 R 100) 53 [.sl false [D.int 2], .sl false [D.int 2]] = some (.ret (D.bool true)) := by kernel_rfl
def nine : List D := [.val (.int .u8 49), .val (.int .u8 50), .val (.int .u8 51), .val (.int .u8 52), .val (.int .u8 53), .val (.int .u8 54), .val (.int .u8 55), .val (.int .u8 56), .val (.int .u8 57)]
theorem k16_t (R : Rc) : pureCall (rcT pg tb4 R 100) 16 [.sl false nine] = some (.ret (.val (.int .u32 3421780262))) := by kernel_rfl
theorem rc_is {n : Nat} (hn : 500 ≤ n) : ∃ R, rcT pg tb4 R 100 = rc pg n := by
  obtain ⟨m, rfl⟩ := more_of hn
  have h := rcT_eq (pg := pg) (T := tb4) (b := m + 400) (fun n hn => tb4_ok n (by omega)) 100
  rw [show m + 400 + 100 = m + 500 by omega] at h
  exact ⟨_, h⟩
set_option maxHeartbeats 4000000 in
theorem sane_run {n : Nat} (hn : 501 ≤ n) : pureCall (rc pg n) 15 [] = some (.ret (D.bool true)) := by
  obtain ⟨m, rfl, e⟩ := body (pg := pg) (f := 15) (args := []) (show 0 < n by omega) rfl rfl
  rw [e]
  obtain ⟨R, hR⟩ := rc_is (show 500 ≤ m by omega)
  have c49 : ∀ h, call pg (rc pg m) 49 [] h = some (.ret (.sl true esD), h) := fun h => by
    have := k49_t R
    rw [hR] at this
    simp [call, show pg.sh 49 = false from rfl, each, pureA, this, Out.d, D.flat]
  have c51 : ∀ h, call pg (rc pg m) 51 [] h = some (.ret (.tup [shD, stD]), h) := fun h => by
    have := k51_t R
    rw [hR] at this
    simp [call, show pg.sh 51 = false from rfl, each, pureA, this, Out.d, D.flat]
  have fz : ∀ (h : Heap) (k : Int), each (frz h depth) [.agg [.sl true esD], .agg [D.int 0, D.int 0], D.int k] = some ([.agg [q7], .agg [D.int 0, D.int 0], D.int k], []) := fun h k => rfl
  have fz2 : ∀ (h : Heap) (k : Int), each (frz h depth) [.agg [.sl true esD], D.int k] = some ([.agg [q7], D.int k], []) := fun h k => rfl
  have c50a := fun h => call_frz (pg := pg) (f := 50) (h := h) rfl (fz h 9) ((hR ▸ k50a_t R))
  have c50b := fun h => call_frz (pg := pg) (f := 50) (h := h) rfl (fz h 10) ((hR ▸ k50b_t R))
  have c50c := fun h => call_frz (pg := pg) (f := 50) (h := h) rfl (fz h 8) ((hR ▸ k50c_t R))
  have c54 := fun h => call_frz (pg := pg) (f := 54) (h := h) rfl (fz2 h 8) ((hR ▸ k54_t R))
  have c52 := (hR ▸ k52_t R)
  have c53 := fun h => call_of (pg := pg) (f := 53) (h := h) rfl rfl ((hR ▸ k53_t R))
  have c16 := fun h => call_of (pg := pg) (f := 16) (h := h) rfl rfl ((hR ▸ k16_t R))
  have e1 : q1 = .agg [D.int 0, D.int 0, D.int 1, D.int 5, D.int 0, D.int 0, D.int 0, .val (.string ⟨#[]⟩)] := rfl
  rw [e1] at c52
  simp only [esD, e1] at c49 c50a c50b c50c c54
  simp only [shD, stD] at c51 c52
  obtain ⟨L, hL, hcan⟩ : ∃ l, q8 = .sl false l ∧ D.canonL l = true := ⟨_, rfl, rfl⟩
  obtain ⟨M, hM⟩ : ∃ l, an1 = .agg [q8, .sl false l, .sl false [], .sl false []] := ⟨_, rfl⟩
  have hN : an2 = .agg [.sl false [q1], D.int 0, D.int 1] := rfl
  rw [hM, hN] at c52
  rw [hL] at c51 c52
  simp only [nine] at c16
  have z1 : zerosD [Value.int .i64 0] 1 1 = [D.int 0] := rfl
  have z9 : zerosD [Value.int .u8 0] 1 9 = [D.val (.int .u8 0), D.val (.int .u8 0), D.val (.int .u8 0), D.val (.int .u8 0), D.val (.int .u8 0), D.val (.int .u8 0), D.val (.int .u8 0), D.val (.int .u8 0), D.val (.int .u8 0)] := rfl
  have s52 : pg.sh 52 = false := rfl
  simp [k15, c49, c50a, c50b, c50c, c51, c53, c54, c16, rst, D.cells, D.one, Value.oneCell', hcan, c52, dcore_f, s52, z1, z9, chunk, fillD]
theorem sane_call {n : Nat} (hn : 501 ≤ n) (h : Heap) : call pg (rc pg n) 15 [] h = some (.ret (D.bool true), h) :=
  call_of (pg := pg) (f := 15) (args := []) rfl rfl (sane_run hn)
end Go.Proofs.YtkbamkdgiglljaaGreat
