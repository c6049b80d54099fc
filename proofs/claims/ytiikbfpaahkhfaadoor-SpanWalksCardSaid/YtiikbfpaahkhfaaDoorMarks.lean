/- The marks of claims, by the program. -/
import Derived.Test.YtiikbfpaahkhfaaDoorTz
import Derived.Test.YtiikbfpaahkhfaaDoorClaim
namespace Go.Proofs.YtiikbfpaahkhfaaDoor
open Go Go.Em
set_option maxRecDepth 100000
theorem call_sh {pg : Pg} {R : Rc} {f : FuncId} {args : List D} {h h' : Heap} {o : Out} (hs : pg.sh f = true) (x : R.fn f args h = some (o, h')) : call pg R f args h = some (o, h') := by
  simp [call, hs, x]
theorem call_frzk {pg : Pg} {R : Rc} {f : FuncId} {a : D} {args bs : List D} {ks : List Nat} {h : Heap} {o : Out} (hs : pg.sh f = false) (ha : each (Go.Em.frz h depth) (a :: args) = some (bs, ks)) (x : pureCall R f bs = some o) : ∃ h', call pg R f (a :: args) h = some (o, h') := by
  have e : call pg R f (a :: args) h = some (o, if (ks.isEmpty || o.d.flat) = true then h else h.kill ks) := by
    simp only [call, hs, ha, pureA, pureS, x, orS, Option.map_some, Bool.false_eq_true, if_false]
  exact ⟨_, e⟩
set_option maxHeartbeats 1000000 in
theorem add_sh (W : List Nat) (hW : W.length = 33) (hlt : ∀ w ∈ W, w < 2 ^ 64) (a : Nat) (ha : a ≤ 2048) {ty k : Nat} {h : Heap} (hg : h.get k = some (.cells ty (W.map wordD))) {n : Nat} (hn : 1 ≤ n) :
    (rc pg n).fn 59 [.ptr k 0, D.int a] h = some (.ret (.tup []), (h.bump 18).set k (some (.cells ty ((addF W a).map wordD)))) := by
  obtain ⟨m, rfl, e⟩ := fn_body (pg := pg) (f := 59) (args := [.ptr k 0, D.int a]) (h := h) (show 0 < n by omega) rfl rfl
  rw [e]
  obtain ⟨q, hq⟩ : ∃ q, q = a / 64 := ⟨_, rfl⟩
  obtain ⟨r, hr⟩ : ∃ r, r = a % 64 := ⟨_, rfl⟩
  have q1 : IntKind.i64.wrap ((a : Int) / 64) = (q : Int) := by rw [wrap_i64 (by omega) (by omega)]; omega
  have r1 : (a : Int).tmod 64 = (r : Int) := by rw [Int.tmod_eq_emod_of_nonneg (by omega)]; omega
  have hqW : q < W.length := by omega
  have hq33 : (q : Int) < 33 := by omega
  obtain ⟨w, hw⟩ : ∃ w, W[q] = w := ⟨_, rfl⟩
  have hwl : w < 2 ^ 64 := by rw [← hw]; exact hlt _ (List.getElem_mem hqW)
  have s1 := bin_shl64 (show r < 64 by omega)
  have hp : 2 ^ r < 2 ^ 64 := Nat.pow_lt_pow_right (by omega) (by omega)
  have s2 := bin_or64 hwl hp
  have hadd : addF W a = W.set q (w ||| 2 ^ r) := by
    unfold addF; rw [← hq, ← hr, List.getD_eq_getElem?_getD, List.getElem?_eq_getElem hqW, hw]; rfl
  have hset : (W.map wordD).take q ++ (wordD (w ||| 2 ^ r) :: (W.map wordD).drop (q + 1)) = (addF W a).map wordD := by
    rw [hadd, List.map_set, List.set_eq_take_append_cons_drop, if_pos (by simpa using hqW)]
  obtain ⟨p, hpp⟩ : ∃ p, p = 2 ^ r := ⟨_, rfl⟩
  rw [← hpp] at s1 s2 hset
  have i1 : q + 1 ≤ W.length := by omega
  have i2 : (W.map wordD)[q]'(by simpa using hqW) = wordD w := by simp [hw]
  simp [k59, Env.v_ini, bin_quo, bin_rem, q1, r1, hq33, hg, i1, hw, hqW, s1, s2, hset, D.cells, D.one]
/-- So many claims are in the set. -/
def MI (l : List Clm) (k : Nat) (s : St) : Prop := ∃ (x : Env 20) (h : Heap) (i : Nat) (W : List Nat) (b : Nat), s = ⟨x.l, h, []⟩ ∧ i + k = l.length ∧ x.v 6 = clsD l ∧ x.v 7 = D.int l.length ∧ x.v 8 = D.int i ∧ x.v 3 = .ptr b 0 ∧ h.get b = some (.cells 103 (W.map wordD)) ∧ b < h.next ∧ HasSet W (l.take i) ∧ h.Fr
set_option maxHeartbeats 2000000 in
theorem marks_round (l : List Clm) (hl : ∀ c ∈ l, (0 ≤ c.a ∧ c.a ≤ 2048) ∧ (0 ≤ c.b ∧ c.b ≤ 2048)) (hlen : l.length ≤ 9223372036854775806) : ∀ n, 1 ≤ n → ∀ k s, MI l k s → Res (k36l0.ev ⟨pg, 20, none⟩ (rc pg n) s) (Rnd (MI l) (fun x s => x = .exit 0 ∧ MI l 0 s) k) := by
  rintro n hn k s ⟨x, h, i, W, b, rfl, hik, v6, v7, v8, v3, hg, hb, hS, hf⟩
  simp only [clsD] at v6
  by_cases hi : i < l.length
  · obtain ⟨c, hc⟩ : ∃ c, l[i] = c := ⟨_, rfl⟩
    obtain ⟨⟨a1, a2⟩, b1, b2⟩ := hl c (by rw [← hc]; exact List.getElem_mem hi)
    obtain ⟨A, hA⟩ : ∃ A : Nat, c.a = A := ⟨c.a.toNat, by omega⟩
    obtain ⟨B, hB⟩ : ∃ B : Nat, c.b = B := ⟨c.b.toNat, by omega⟩
    have htk : l.take (i + 1) = l.take i ++ [c] := by rw [List.take_add_one, List.getElem?_eq_getElem hi, hc]; rfl
    have hS1 : HasSet (addF (addF W A) B) (l.take (i + 1)) := by rw [htk]; exact hS.add hA hB (by omega) (by omega)
    have w1 : IntKind.i64.wrap ((i : Int) + 1) = (i : Int) + 1 := wrap_i64 (by omega) (by omega)
    have hfr : ∀ j, h.raw (h.next + j) = none := fun j => hf _ (by omega)
    have ne1 : ∀ j, (b = h.next + j) = False := fun j => by simp; omega
    have ne2 : ∀ j, (h.next + j = b) = False := fun j => by simp; omega
    have s59 : pg.sh 59 = true := rfl
    have hlt1 := addF_lt hS.2.1 A
    have hl1 : (addF W A).length = 33 := by rw [addF_len, hS.1]
    have c1 := fun (hh : Heap) (hgg : hh.get b = some (.cells 103 (W.map wordD))) => call_sh s59 (add_sh W hS.1 hS.2.1 A (by omega) hgg hn)
    have c2 := fun (hh : Heap) (hgg : hh.get b = some (.cells 103 ((addF W A).map wordD))) => call_sh s59 (add_sh (addF W A) hl1 hlt1 B (by omega) hgg hn)
    simp [k36l0, v6, v7, v8, v3, hi, hc, clD, clC, hA, hB, D.cells, D.one, hfr, Nat.add_assoc, ne1, ne2, w1, c1, c2, hg]
    refine ⟨k - 1, by omega, _, _, i + 1, addF (addF W A) B, b, rfl, by omega, by simp [v6, clsD], by simp [v7], by simp, by simp [v3], by simp, by simp <;> omega, hS1, ?_⟩
    repeat' first | exact hf | apply Heap.Fr.bump | apply Heap.Fr.set
    all_goals (simp <;> omega)
  · simp [k36l0, v7, v8, hi]
    have hil : i = l.length := by omega
    exact ⟨_, _, i, W, b, rfl, by omega, by simp [v6, clsD], by simp [v7], by simp [v8], by simp [v3], by simp [hg], by simp <;> omega, hS, hf.bump _⟩
theorem marks_run (l : List Clm) (hl : ∀ c ∈ l, (0 ≤ c.a ∧ c.a ≤ 2048) ∧ (0 ≤ c.b ∧ c.b ≤ 2048)) (hlen : l.length ≤ 9223372036854775806) {n : Nat} (hn : l.length + 130 ≤ n) : pureCall (rc pg n) 36 [clsD l] = some (.ret (.sl false ((marksF l).map D.int))) := by
  obtain ⟨m, rfl, e⟩ := body (pg := pg) (f := 36) (args := [clsD l]) (show 0 < n by omega) rfl rfl
  rw [e]
  have hrep : (List.replicate 33 0).map wordD = [wordD 0, wordD 0, wordD 0, wordD 0, wordD 0, wordD 0, wordD 0, wordD 0, wordD 0, wordD 0, wordD 0, wordD 0, wordD 0, wordD 0, wordD 0, wordD 0, wordD 0, wordD 0, wordD 0, wordD 0, wordD 0, wordD 0, wordD 0, wordD 0, wordD 0, wordD 0, wordD 0, wordD 0, wordD 0, wordD 0, wordD 0, wordD 0, wordD 0] := rfl
  simp [k36, Env.v_ini, clsD, ev_loop]
  refine Res.endsAfter (lp_rule 1 (MI l) _ (marks_round l hl hlen) l.length m _ (by omega) ⟨_, _, 0, List.replicate 33 0, 23, rfl, by omega, by simp [clsD], by simp, by simp, by simp, by simp [hrep], by simp, HasSet.nil, ?_⟩) ?_
  · repeat' first | exact Heap.Fr.empty | apply Heap.Fr.bump | apply Heap.Fr.set
    all_goals simp
  · rintro x s ⟨rfl, x, h, i, W, b, rfl, hi, v6, v7, v8, v3, hg, hb, hS, hf⟩
    have hil : i = l.length := by omega
    subst hil
    rw [List.take_length] at hS
    have s60 : pg.sh 60 = false := rfl
    have hr := @list_run W hS.1 hS.2.1 m (by omega)
    rw [set_marks hS hl] at hr
    have hz : each (frz (h.bump 20) depth) [.ptr b 0] = some ([.eref (W.map wordD)], [b]) := by
      have := fun h => each_canon h 22 _ (word_canon W)
      simp [hg, this]
    obtain ⟨h2, hcall⟩ := call_frzk (h := h.bump 20) s60 hz hr
    have hcan := fun h n => each_canon h n _ (canonL_map D.int (fun _ => rfl) (marksF l))
    simp [v3, hcall, hcan]
end Go.Proofs.YtiikbfpaahkhfaaDoor
