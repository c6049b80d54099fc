/- The law: CheckEntry, Encode, Frame and Decode agree with the document's own. -/
import Derived.Test.YtkbamkdgiglljaaGreatOm
import Derived.Test.YtkbamkdgiglljaaGreatOi
import Derived.Test.YtkbamkdgiglljaaGreatSane
namespace Go.Proofs.YtkbamkdgiglljaaGreat
open Go Go.Em
set_option maxRecDepth 100000
theorem sane_T {n : Nat} (hn : 501 ≤ n) : pureT (rc pg n) 15 = some (.ret (D.bool true)) := by
  have h := sane_call hn .empty
  have hsh : pg.sh 15 = false := rfl
  simp only [call, hsh, Bool.false_eq_true, if_false, each, pureA, Option.map_eq_some_iff] at h
  obtain ⟨o, h1, h2⟩ := h
  rw [h1]
  injection h2 with h3 h4
  rw [h3]
theorem pureA_nil (R : Rc) (f : FuncId) (l : List D) : pureA R f [] l = pureT R f := rfl
set_option maxHeartbeats 16000000 in
theorem entries_all (x : Ent) (l : List UInt8) (hl : l.length ≤ 9000000000000000) {n : Nat} (hn : 30000 ≤ n) : pureCall (rc pg n) 3 [entD x, bD l] = some (.ret (D.bool true)) := by
  obtain ⟨m, rfl, e⟩ := body (pg := pg) (f := 3) (args := [entD x, bD l]) (show 0 < n by omega) rfl rfl
  rw [e]
  have c7 := fun h => call_of (h := h) (pg := pg) (f := 7) rfl (entD_can x) (encode_run (n := m) (by omega) x)
  have c8 := fun h => call_of (h := h) (pg := pg) (f := 8) rfl (entD_can x) (rencode_run (n := m) (by omega) x)
  have c9 := fun h => call_of (h := h) (pg := pg) (f := 9) rfl (entD_can x) (frame_run (n := m) (by omega) x)
  have c10 := fun h => call_of (h := h) (pg := pg) (f := 10) rfl (entD_can x) (rframe_run (n := m) (by omega) x)
  have c11 := fun h => call_of (h := h) (pg := pg) (f := 11) rfl (bD_can l) (decode_run (n := m) (by omega) l)
  have c12 := fun h => call_of (h := h) (pg := pg) (f := 12) rfl (bD_can l) (rdecode_run (n := m) (by omega) l hl)
  have c13 := check_run (n := m) (by omega) x
  have c14 := rcheck_run (n := m) (by omega) x
  have cs := sane_T (n := m) (by omega)
  have s13 : pg.sh 13 = false := rfl
  have s14 : pg.sh 14 = false := rfl
  have s15 : pg.sh 15 = false := rfl
  have eqs : ∀ t : List UInt8, ((⟨t.toArray⟩ : ByteArray) == ⟨t.toArray⟩) = true := fun t => by rw [str_eq]; simp
  obtain ⟨Y, hY⟩ : ∃ Y : Ent, (if decF l = true then entD (decX l) else entD zeroE) = entD Y := by split <;> exact ⟨_, rfl⟩
  obtain ⟨k1, h1⟩ : ∃ k : Int, erI (okF x) 80 = D.int k := ⟨_, rfl⟩
  obtain ⟨k2, h2⟩ : ∃ k : Int, erI (decF l) 80 = D.int k := ⟨_, rfl⟩
  unfold encR at c7 c8
  unfold frmR at c9 c10
  unfold decR at c11 c12
  rw [h1] at c7 c8 c9 c10 c13 c14
  rw [hY, h2] at c11 c12
  obtain ⟨p, hp⟩ : ∃ p, p = encL x := ⟨_, rfl⟩
  obtain ⟨q, hq⟩ : ∃ q, q = frmL x := ⟨_, rfl⟩
  rw [← hp] at c7 c8
  rw [← hq] at c9 c10
  have bp := b2s_is p
  have bq := b2s_is q
  simp only [bD, entD, entL, strD] at c7 c8 c9 c10 c11 c12 c13 c14 ⊢
  simp [-src_sl, k3, Env.v_ini, c7, c8, c9, c10, c11, c12, c13, c14, cs, pureA_nil, dcore_f, s13, s14, s15, eqs, src_bL, unbytes_bL, bp, bq, D.cells, D.one, Value.oneCell']
end Go.Proofs.YtkbamkdgiglljaaGreat
