/- The bytes of an entry, by the document. -/
import Derived.Test.YtkbamkdgiglljaaGreatOe
namespace Go.Proofs.YtkbamkdgiglljaaGreat
open Go Go.Em
set_option maxRecDepth 100000
theorem fourL_len (n : Nat) : (fourL n).length = 4 := rfl
theorem bL4_len (n : Nat) : (bL (fourL n)).length = 4 := rfl
theorem bL4_tk (n : Nat) : (bL (fourL n)).take 4 = bL (fourL n) := rfl
theorem four_sh {n : Nat} (hn : 1 ≤ n) (a : Nat) (h : Heap) (hr : h.raw (h.next + 29) = none) : call pg (rc pg n) 36 [D.int a] h = some (.ret (.slr (h.next + 29) 0 4 1 (some 4)), ((h.bump 15).bump 15).set (h.next + 29) (some (.cells 5 (bL (fourL a))))) := by
  obtain ⟨m, rfl, e⟩ := fn_body (pg := pg) (n := n) (f := 36) (args := [D.int a]) (h := h) (show 0 < n by omega) rfl rfl
  refine call_sh rfl ?_
  rw [e]
  have s24 : bin .shr (.int .i64 (a : Int)) (.int .u64 24) = some (.int .i64 ((a / 16777216 : Nat) : Int)) := bin_shr64u (n := 24) (by omega)
  have s16 : bin .shr (.int .i64 (a : Int)) (.int .u64 16) = some (.int .i64 ((a / 65536 : Nat) : Int)) := bin_shr64u (n := 16) (by omega)
  have s8 : bin .shr (.int .i64 (a : Int)) (.int .u64 8) = some (.int .i64 ((a / 256 : Nat) : Int)) := bin_shr64u (n := 8) (by omega)
  rw [← fourN_eq]
  obtain ⟨q1, h1⟩ : ∃ q, q = a / 16777216 := ⟨_, rfl⟩
  obtain ⟨q2, h2⟩ : ∃ q, q = a / 65536 := ⟨_, rfl⟩
  obtain ⟨q3, h3⟩ : ∃ q, q = a / 256 := ⟨_, rfl⟩
  rw [← h1] at s24
  rw [← h2] at s16
  rw [← h3] at s8
  have z4 : zerosD [Value.int .u8 0] 1 4 = [.val (.int .u8 0), .val (.int .u8 0), .val (.int .u8 0), .val (.int .u8 0)] := rfl
  have w := wrap_u8n
  simp [k36, Env.v_ini, s24, s16, s8, w, z4, hr, D.cells, D.one, Value.oneCell', Nat.add_assoc, fourN, ← h1, ← h2, ← h3]
  have hu : ∀ q : Nat, u1D (q % 256) = .val (.int .u8 ((q : Int) % 256)) := fun q => by simp
  simp only [hu]
set_option maxHeartbeats 8000000 in
theorem rencode_ok (o s k h r fo fs : Nat) (t : List UInt8) (ht : t.length ≤ 8000) (hok : okF ⟨o, s, k, h, r, fo, fs, t⟩ = true) {n : Nat} (hn : 100 ≤ n) :
    pureCall (rc pg n) 8 [entD ⟨o, s, k, h, r, fo, fs, t⟩] = some (.ret (.tup [bD (e20 o s k h r fo fs t.length ++ t), D.int 0])) := by
  obtain ⟨m, rfl, e⟩ := body (pg := pg) (f := 8) (args := [entD ⟨o, s, k, h, r, fo, fs, t⟩]) (show 0 < n by omega) rfl rfl
  rw [e]
  have hc := fun h' => call_of (h := h') (pg := pg) (f := 14) rfl (entD_can ⟨o, s, k, h, r, fo, fs, t⟩) (rcheck_run (n := m) (by omega) ⟨o, s, k, h, r, fo, fs, t⟩)
  rw [hok] at hc
  have c4 := fun (a : Nat) h' => @four_sh m (by omega) a h'
  simp only [entD, entL, strD, erI, if_true, bD] at hc ⊢
  have z1 : zerosD [Value.int .u8 0] 1 1 = [.val (.int .u8 0)] := rfl
  have z2 : zerosD [Value.int .u8 0] 1 2 = [.val (.int .u8 0), .val (.int .u8 0)] := rfl
  have w := wrap_u8n
  have hm : t.length ≤ maxLen := by unfold maxLen; omega
  have fin : bL (e20 o s k h r fo fs t.length ++ t) = p20 o s k h r fo fs t.length ++ bL t := by rw [p20_eq, bL_app]
  have u := fun a : Nat => show (Value.int IntKind.u8 ((a : Int) % 256)) = Value.int IntKind.u8 ((a % 256 : Nat) : Int) by simp
  by_cases h0 : t = []
  · subst h0
    have c40 : ∀ h' : Heap, h'.raw (h'.next + 29) = none → call pg (rc pg m) 36 [D.int 0] h' = some (.ret (.slr (h'.next + 29) 0 4 1 (some 4)), ((h'.bump 15).bump 15).set (h'.next + 29) (some (.cells 5 (bL (fourL 0))))) := fun h' => c4 0 h'
    have hbs : bytesD ⟨#[]⟩ = [] := rfl
    have hbs2 : bytesD ByteArray.empty = [] := rfl
    have src0 : ∀ h : Heap, src h 1 (.sl false []) = some (0, []) := fun h => rfl
    simp [-out1, -src_sl, k8, Env.v_ini, hc, c4, c40, hbs, hbs2, src0, apK_zero_slr, D.cells, D.one, Value.oneCell', str_size, w, z1, z2, src_bL, apK_some, bL_one, bL_len, ap_over, ap_none, fourL_len, bL4_len, bL4_tk, bL_str, room, hm]
    refine out_bytes (N := 20) (ty := 5) (l := e20 o s k h r fo fs 0 ++ []) ?_ (by simp [e20, fourL]) 0
    have fin : bL (e20 o s k h r fo fs 0 ++ []) = p20 o s k h r fo fs 0 ++ bL [] := fin
    rw [fin]
    simp [p20, p16, p11, p10, p6, p5, fourN_eq, bL]
  · have h1 : t.length ≠ 0 := by cases t <;> simp_all
    have h2 : 0 < t.length := by omega
    have h3 : 20 + t.length ≤ 1000000000 := by omega
    simp [-out1, -src_sl, k8, Env.v_ini, hc, c4, D.cells, D.one, Value.oneCell', str_size, w, z1, z2, src_bL, apK_some, bL_one, bL_len, ap_over, ap_none, fourL_len, bL4_len, bL4_tk, bL_str, room, hm, h1, h2, h3]
    refine out_bytes (ty := 5) (l := e20 o s k h r fo fs t.length ++ t) ?_ ?_ 0
    · rw [fin]
      simp [p20, p16, p11, p10, p6, p5, fourN_eq]
    · simp [e20, fourL]; omega
theorem rencode_run {n : Nat} (hn : 100 ≤ n) (x : Ent) : pureCall (rc pg n) 8 [entD x] = some (.ret (encR x)) := by
  unfold encR encL erI
  cases hok : okF x with
  | true =>
    obtain ⟨o, s, k, h, r, fo, fs, hx, b1, b2, b3, b4, b5, b6, b7, b8, b9⟩ := ok_nat hok
    rw [hx] at hok
    have := rencode_ok o s k h r fo fs x.t b9 hok hn
    rw [← hx] at this
    rw [this]
    have e : e20x x = e20 o s k h r fo fs x.t.length := by rw [hx]; rfl
    simp [e]
  | false =>
    obtain ⟨m, rfl, e⟩ := body (pg := pg) (f := 8) (args := [entD x]) (show 0 < n by omega) rfl rfl
    rw [e]
    have hc := fun h' => call_of (h := h') (pg := pg) (f := 14) rfl (entD_can x) (rcheck_run (n := m) (by omega) x)
    rw [hok] at hc
    simp only [entD, entL, strD, erI] at hc ⊢
    simp [k8, Env.v_ini, hc, D.cells, D.one, Value.oneCell', bD, bL]
end Go.Proofs.YtkbamkdgiglljaaGreat
