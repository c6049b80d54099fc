/- One times a number, by package math/bits. -/
import Derived.Test.YtlkpikdfbodhoaaDoorKp1
import Derived.Test.YtlkpikdfbodhoaaDoorEmNet
import Derived.Test.YtlkpikdfbodhoaaDoorWo1
import Derived.Test.YtlkpikdfbodhoaaDoorKp1
namespace Go.Proofs.YtlkpikdfbodhoaaDoor
open Go Go.Em
set_option maxRecDepth 100000
noncomputable def mulOk (m n : Nat) : Bool := match pureCall (rc pg (m + 3)) 124 [.val (.int .u64 1), .val (.int .u64 n)] with
  | some (.ret (.tup [.val (.int .u64 a), .val (.int .u64 b)])) => a == 0 && b == n
  | _ => false
theorem mul_tab (m : Nat) : (List.range 67).all (mulOk m) = true := by kernel_rfl
theorem mul_run {n : Nat} (hn : n ≤ 66) {k : Nat} (hk : 3 ≤ k) : pureCall (rc pg k) 124 [.val (.int .u64 1), .val (.int .u64 n)] = some (.ret (.tup [.val (.int .u64 0), .val (.int .u64 n)])) := by
  obtain ⟨m, rfl⟩ := more_of hk
  have h := List.all_eq_true.1 (mul_tab m) n (List.mem_range.2 (by omega))
  unfold mulOk at h
  split at h
  · rename_i a b e
    simp only [Bool.and_eq_true, beq_iff_eq] at h
    rw [e, h.1, h.2]
  · cases h
end Go.Proofs.YtlkpikdfbodhoaaDoor
/- A number, so many times, by package slices. -/
namespace Go.Proofs.YtlkpikdfbodhoaaDoor
open Go Go.Em
set_option maxRecDepth 100000
def RpI (h0 : Heap) (v : Int) (n b : Nat) (k : Nat) (s : St) : Prop := ∃ (x : Env 48) (h : Heap) (m : Nat) (cs : List D), s = ⟨x.l, h, []⟩ ∧ n - m ≤ k ∧ 0 < m ∧ m ≤ n ∧ x.v 7 = .slr b 0 n 1 (some n) ∧ x.v 8 = D.int m ∧ h.get b = some (.cells 3 cs) ∧ cs.length = n ∧ (∀ j, j < m → cs[j]? = some (D.int v)) ∧ b < h.next ∧ h.Fr ∧ h0.next ≤ b ∧ Un h0 h
set_option maxHeartbeats 2000000 in
theorem rep_round (h0 : Heap) (v : Int) (n b : Nat) (hn : n ≤ 66) : ∀ f, 0 ≤ f → ∀ k s, RpI h0 v n b k s → Res (k115l0.ev ⟨pg, 48, none⟩ (rc pg f) s) (Rnd (RpI h0 v n b) (fun x s => x = .exit 0 ∧ RpI h0 v n b 0 s) k) := by
  rintro f hf k s ⟨x, h, m, cs, rfl, hk, hm0, hmn, v7, v8, hg, hcs, hv, hb, hfr, hb0, hu1, hu2⟩
  by_cases hm : m < n
  · have w1 : IntKind.i64.wrap ((m : Int) + (min m (n - m) : Nat)) = ((m + min m (n - m) : Nat) : Int) := by rw [wrap_i64 (by omega) (by omega)]; omega
    have hin : (m : Int) < n := by omega
    have s1 : sliceR b 0 1 (some n) (m : Int) (n : Int) none (upTo (some n) n 0 1 n) = some (.slr b m (n - m) 1 (some (n - m))) := by
      unfold sliceR
      have h1 : ¬ ((m : Int) = n ∧ 0 < (m : Int)) := by omega
      have h2 : (decide (0 ≤ (m : Int)) && decide ((m : Int) ≤ n) && upTo (some n) n 0 1 n n && mxOk n (upTo (some n) n 0 1 n) none) = true := by
        unfold upTo mxOk; simp; omega
      rw [if_pos h2, if_neg h1]
      simp [mxCap]
    have s2 : sliceR b 0 1 (some n) 0 (m : Int) none (upTo (some n) n 0 1 n) = some (.slr b 0 m 1 (some n)) := by
      unfold sliceR
      have h1 : ¬ ((0 : Int) = m ∧ (0 : Int) < 0) := by omega
      have h2 : (decide ((0 : Int) ≤ 0) && decide ((0 : Int) ≤ m) && upTo (some n) n 0 1 n m && mxOk m (upTo (some n) n 0 1 n) none) = true := by
        unfold upTo mxOk; simp; omega
      rw [if_pos h2, if_neg h1]
      simp [mxCap]
    have hone : ∀ y ∈ List.take m cs, D.one y = true := by
      intro y hy
      obtain ⟨j, hj, e⟩ := List.getElem_of_mem hy
      have hjm : j < m := by simp at hj; omega
      rw [List.getElem_take] at e
      have := hv j hjm
      rw [List.getElem?_eq_getElem (by omega), e] at this
      rw [Option.some.inj this]; rfl
    obtain ⟨q, hq⟩ : ∃ q, q = min m (n - m) := ⟨_, rfl⟩
    have hq1 : 0 < q ∧ q ≤ m ∧ m + q ≤ n := by omega
    rw [← hq] at w1
    have hone' : (∀ y, y ∈ List.take m cs → D.one y = true) = True := eq_true hone
    simp [k115l0, v7, v8, hin, hg, w1, noStr, hcs, s1, s2, hmn, hone', ← hq]
    refine ⟨k - 1, by omega, _, _, m + q, _, rfl, by omega, by omega, by omega, by simp [v7], by simp, by simp; rfl, ?_, fun j hj => ?_, by simp; omega, ?_, hb0, by simp; omega, fun j hj => ?_⟩
    · simp; omega
    · rw [List.getElem?_append]
      split
      · rw [List.getElem?_take]; split
        · exact hv j (by assumption)
        · rename_i h1 h2; simp at h1; omega
      · rename_i h1
        have h1' : m ≤ j := by simp at h1; omega
        have hl : (List.take m cs).length = m := by simp; omega
        rw [hl, List.getElem?_append_left (by simp; omega), List.getElem?_take, if_pos (by omega), List.getElem?_take, if_pos (by omega)]
        exact hv _ (by omega)
    · repeat' first | exact hfr | apply Heap.Fr.bump | apply Heap.Fr.set
      all_goals (simp <;> omega)
    · have := hu2 j hj
      simp [show j ≠ b by omega, this]
  · have hm' : ¬ (m : Int) < n := by omega
    simp [k115l0, v7, v8, hm']
    exact ⟨_, _, m, cs, rfl, by omega, hm0, hmn, by simp [v7], by simp [v8], by simp [hg], hcs, hv, by simp; omega, hfr.bump _, hb0, by simp; omega, fun j hj => by simpa using hu2 j hj⟩
theorem rep_sh6 (v : Int) {n : Nat} (hn : n ≤ 66) (hn0 : 0 < n) {h : Heap} (hf : h.Fr) {f : Nat} (hfl : 80 ≤ f) : ∃ b h', (rc pg f).fn 115 [.sl false [D.int v], D.int n] h = some (.ret (.slr b 0 n 1 (some n)), h') ∧ h'.get b = some (.cells 3 ((List.replicate n v).map D.int)) ∧ b < h'.next ∧ h'.Fr ∧ h.next ≤ b ∧ Un h h' := by
  obtain ⟨m, rfl, e⟩ := fn_body (pg := pg) (f := 115) (args := [.sl false [D.int v], D.int n]) (h := h) (show 0 < f by omega) rfl rfl
  rw [e]
  have hfr : ∀ j, h.raw (h.next + j) = none := fun j => hf _ (by omega)
  have c87 := fun h => call_of (h := h) (pg := pg) (f := 124) (args := [.val (.int .u64 1), .val (.int .u64 n)]) rfl rfl (@mul_run n hn m (by omega))
  have w1 : IntKind.u64.wrap (n : Int) = (n : Int) := wrap_u64 (by omega) (by omega)
  have w2 : IntKind.i64.wrap (n : Int) = (n : Int) := wrap_i64 (by omega) (by omega)
  have w0 : IntKind.u64.wrap 1 = 1 := by decide
  have n0 : ¬ ((n : Int) < 0) := by omega
  have n1 : ¬ ((9223372036854775807 : Int) < n) := by omega
  have hm1 : min 1 n = 1 := by omega
  have hroom : (8 : Int) * n ≤ (room : Int) := by unfold room; omega
  have hz : zerosD [.int .i64 0] 1 n = List.replicate n (D.int 0) := by
    unfold zerosD
    refine List.eq_replicate_iff.2 ⟨by simp, fun b hb => ?_⟩
    obtain ⟨i, _, rfl⟩ := List.mem_map.1 hb
    simp [Nat.mod_one]
  simp [k115, Env.v_ini, c87, hm1, hroom, hz, D.cells, D.one, w0, w1, w2, n0, n1, hfr, Nat.add_assoc, noStr, ev_loop]
  refine Res.tailG (F := fun b => D.slr b 0 n 1 (some n)) (C := fun b h' => h'.get b = some (.cells 3 (List.replicate n (D.int v))) ∧ b < h'.next ∧ h'.Fr ∧ h.next ≤ b ∧ Un h h') (lp_rule 0 (RpI h v n (h.next + 222)) _ (rep_round h v n _ hn) n m _ (by omega) ⟨_, _, 1, D.int v :: List.replicate (n - 1) (D.int 0), rfl, by omega, by omega, by omega, by simp, by simp, by simp, by simp; omega, fun j hj => ?_, by simp <;> omega, ?_, by omega, by simp; omega, fun q hq => by simp [show q ≠ h.next + 222 by omega]⟩) ?_
  · obtain rfl : j = 0 := by omega
    rfl
  · repeat' first | exact hf | apply Heap.Fr.bump | apply Heap.Fr.set
    all_goals (simp <;> omega)
  · rintro x s ⟨rfl, x, h', m', cs, rfl, hk, hm0, hmn, v7, v8, hg, hcs, hv, hb, hf, hb0, hu1, hu2⟩
    have hcs' : cs = List.replicate n (D.int v) := by
      refine List.eq_replicate_iff.2 ⟨hcs, fun d hd => ?_⟩
      obtain ⟨j, hj, e⟩ := List.getElem_of_mem hd
      have := hv j (by omega)
      rw [List.getElem?_eq_getElem hj, e] at this
      exact Option.some.inj this
    rw [hcs'] at hg
    refine ⟨h.next + 222, h'.bump 48, by simp [v7], by simpa using hg, by simp; omega, hf.bump _, hb0, by simp; omega, fun q hq => by simpa using hu2 q hq⟩
end Go.Proofs.YtlkpikdfbodhoaaDoor
/- Years that are lowered round by round, by the program. -/
namespace Go.Proofs.YtlkpikdfbodhoaaDoor
open Go Go.Em Go.Em.Net
set_option maxRecDepth 100000
structure Mo where
  cl : Int
  bk : Bool
  fr : Nat
  to_ : Nat
  mo : Int
def moC (m : Mo) : List D := [D.int m.cl, D.bool m.bk, D.int m.fr, D.int m.to_, D.int m.mo]
def moD (m : Mo) : D := .agg (moC m)
def mosD (l : List Mo) : D := .sl false (l.map moD)
def its (mv : List Mv) : Nat → (Nat → Int) → Nat → Int
  | 0, y => y
  | r + 1, y => its mv r (mv.foldl relax y)
def yCs (n : Nat) (y : Nat → Int) : List D := (List.range n).map fun v => D.int (y v)
theorem yCs_set {n : Nat} {y : Nat → Int} {j : Nat} (a : Int) : (yCs n y).set j (D.int a) = yCs n (fun v => if v = j then a else y v) := by
  apply List.ext_getElem?
  intro i
  unfold yCs
  rw [List.getElem?_set]
  by_cases hi : i < n
  · by_cases hij : j = i
    · subst hij; simp [hi]
    · have : ¬ i = j := fun e => hij e.symm
      simp [hij, hi, this]
  · by_cases hij : j = i
    · subst hij; simp [hi]
    · simp [hij, hi]
theorem yCs_len (n : Nat) (y : Nat → Int) : (yCs n y).length = n := by simp [yCs]
theorem yCs_get {n : Nat} {y : Nat → Int} {j : Nat} (hj : j < n) : (yCs n y)[j]? = some (D.int (y j)) := by simp [yCs, hj]
end Go.Proofs.YtlkpikdfbodhoaaDoor
/- Years that are lowered round by round, by the program: all rounds; whether claims contradict. -/
namespace Go.Proofs.YtlkpikdfbodhoaaDoor
open Go Go.Em Go.Em.Net
set_option maxRecDepth 100000
def z0 : Nat → Int := fun _ => 0
end Go.Proofs.YtlkpikdfbodhoaaDoor
/- Whether claims contradict each other, by the program. -/
namespace Go.Proofs.YtlkpikdfbodhoaaDoor
open Go Go.Em Go.Em.Net
set_option maxRecDepth 100000
theorem chunk_one : ∀ (n : Nat) (l : List D), l.length = n → chunk 1 n l = l
  | 0, [], _ => rfl
  | n + 1, a :: l, h => by
    unfold chunk
    simp [chunk_one n l (by simpa using h)]
end Go.Proofs.YtlkpikdfbodhoaaDoor
/- Whether moves contradict each other; the moves along claims. -/
namespace Go.Proofs.YtlkpikdfbodhoaaDoor
open Go Go.Em Go.Em.Net
set_option maxRecDepth 100000
def placeF (M : List Int) (v : Int) : Nat := M.idxOf v
end Go.Proofs.YtlkpikdfbodhoaaDoor
/- The graph of claims: the claims that may be used (all of them). -/
namespace Go.Proofs.YtlkpikdfbodhoaaDoor
open Go Go.Em Go.Em.Net
set_option maxRecDepth 100000
def nil2 : List D := [.val (.slice none 0 0), .val (.slice none 0 0)]
end Go.Proofs.YtlkpikdfbodhoaaDoor
/- The graph of claims: the moves. -/
namespace Go.Proofs.YtlkpikdfbodhoaaDoor
open Go Go.Em Go.Em.Net
set_option maxRecDepth 100000
theorem place_at {M : List Int} {v : Int} (hv : v ∈ M) : ∃ h : placeF M v < M.length, M[placeF M v] = v :=
  ⟨List.idxOf_lt_length_iff.2 hv, List.getElem_idxOf _⟩
end Go.Proofs.YtlkpikdfbodhoaaDoor
/- The graph of claims, by the program. -/
namespace Go.Proofs.YtlkpikdfbodhoaaDoor
open Go Go.Em Go.Em.Net
set_option maxRecDepth 100000
def dZ2 (base : Nat) (e : List D) (ts hs : List HK) (h : Heap) (ks : List Nat) (o : Option Out) : Option (D × Heap) := match o with
  | some (.ret d) => if (ks.isEmpty || d.flat || mayKill base e ts hs false ks) = true then some (d, thaw ks d h) else none
  | _ => none
theorem dZ2_ret {base : Nat} {e : List D} {ts hs : List HK} {h : Heap} {ks : List Nat} {d : D} (hk : mayKill base e ts hs false ks = true) : dZ2 base e ts hs h ks (some (.ret d)) = some (d, thaw ks d h) := by
  unfold dZ2; simp [hk]
end Go.Proofs.YtlkpikdfbodhoaaDoor
/- A net without bounds, by the program. -/
namespace Go.Proofs.YtlkpikdfbodhoaaDoor
open Go Go.Em Go.Em.Net
set_option maxRecDepth 100000
def rowS (n k : Nat) : D := .slr k 0 n 1 (some n)
def nilS : D := .val (.slice none 0 0)
structure Mat (n : Nat) (A : Nat → Nat → Int) (mb : Nat) (ks : List Nat) (h : Heap) : Prop where
  len : ks.length = n
  top : h.get mb = some (.cells 31 (ks.map (rowS n)))
  nd : ks.Nodup
  lt : ∀ q ∈ ks, q < h.next ∧ q ≠ mb
  row : ∀ j, ∀ hj : j < ks.length, h.get ks[j] = some (.cells 3 (yCs n (A j)))
  mlt : mb < h.next
def far0 : Nat → Nat → Int := fun i j => if j = i then 0 else 1000000000
end Go.Proofs.YtlkpikdfbodhoaaDoor
/- A number of a net is lowered, by the program. -/
namespace Go.Proofs.YtlkpikdfbodhoaaDoor
open Go Go.Em Go.Em.Net
set_option maxRecDepth 100000
def updA (A : Nat → Nat → Int) (i j : Nat) (v : Int) : Nat → Nat → Int := fun a b => if a = i ∧ b = j then v else A a b
def Only (ks : List Nat) (h h' : Heap) : Prop := h.next ≤ h'.next ∧ ∀ q, q < h.next → q ∉ ks → h'.raw q = h.raw q
theorem Only.get {ks : List Nat} {h h' : Heap} (o : Only ks h h') {q : Nat} (h1 : q < h.next) (h2 : q ∉ ks) : h'.get q = h.get q := by unfold Heap.get; rw [o.2 q h1 h2]
theorem Only.trans {ks : List Nat} {a b c : Heap} (o : Only ks a b) (p : Only ks b c) : Only ks a c := ⟨Nat.le_trans o.1 p.1, fun q h1 h2 => by rw [p.2 q (Nat.lt_of_lt_of_le h1 o.1) h2, o.2 q h1 h2]⟩
theorem Mat.at {n : Nat} {A : Nat → Nat → Int} {mb : Nat} {ks : List Nat} {h : Heap} (m : Mat n A mb ks h) {i : Nat} (hi : i < n) : ∃ k, (∀ h', (ks.map (rowS n))[i]'h' = rowS n k) ∧ k ∈ ks ∧ (∀ hj : i < ks.length, ks[i] = k) ∧ h.get k = some (.cells 3 (yCs n (A i))) := by
  have hl := m.len
  exact ⟨ks[i], fun h' => by simp, List.getElem_mem _, fun _ => rfl, m.row i (by omega)⟩
theorem Mat.put {n : Nat} {A B : Nat → Nat → Int} {mb : Nat} {ks : List Nat} {h h' : Heap} (m : Mat n A mb ks h) {i : Nat} (hi : i < n) {k : Nat} (hk : ∀ hj : i < ks.length, ks[i] = k) (hg : h'.get k = some (.cells 3 (yCs n (B i)))) (ho : ∀ q, q < h.next → q ≠ k → h'.get q = h.get q) (hn : h.next ≤ h'.next) (hB : ∀ a, a ≠ i → B a = A a) : Mat n B mb ks h' := by
  have hl := m.len
  have hkk := hk (by omega)
  have hkm : k ∈ ks := by rw [← hkk]; exact List.getElem_mem _
  refine ⟨hl, ?_, m.nd, fun q hq => ⟨Nat.lt_of_lt_of_le (m.lt q hq).1 hn, (m.lt q hq).2⟩, fun j hj => ?_, Nat.lt_of_lt_of_le m.mlt hn⟩
  · rw [ho mb m.mlt (Ne.symm (m.lt k hkm).2)]; exact m.top
  · by_cases hji : j = i
    · subst hji; rw [hkk]; exact hg
    · have hne : ks[j] ≠ k := fun e => by
        rw [← hkk] at e
        have hp := List.pairwise_iff_getElem.1 m.nd
        rcases Nat.lt_or_gt_of_ne hji with h1 | h1
        · exact hp j i hj (by omega) h1 e
        · exact hp i j (by omega) hj h1 e.symm
      rw [ho _ (m.lt _ (List.getElem_mem hj)).1 hne, hB j hji]
      exact m.row j hj
set_option maxHeartbeats 8000000 in
theorem lower_sh {n : Nat} {A : Nat → Nat → Int} {mb : Nat} {ks : List Nat} {h : Heap} (hm : Mat n A mb ks h) (hf : h.Fr) (X : D) (hX : D.one X = true) {i j : Nat} (hi : i < n) (hj : j < n) (v : Int) {f : Nat} (hfl : 1 ≤ f) : ∃ h', (rc pg f).fn 61 [.agg [X, rowS n mb], D.int i, D.int j, D.int v] h = some (.ret (.tup []), h') ∧ Mat n (updA A i j (min (A i j) v)) mb ks h' ∧ Only ks h h' ∧ h'.Fr := by
  obtain ⟨m, rfl, e⟩ := fn_body (pg := pg) (f := 61) (args := [.agg [X, rowS n mb], D.int i, D.int j, D.int v]) (h := h) (show 0 < f by omega) rfl rfl
  rw [e]
  have hfr : ∀ j, h.raw (h.next + j) = none := fun j => hf _ (by omega)
  obtain ⟨k, k1, k2, k3, k4⟩ := hm.at hi
  have hkl := hm.lt k k2
  have hmlt := hm.mlt
  have n1 : ∀ j, (mb = h.next + j) = False := fun j => by simp; omega
  have n2 : ∀ j, (k = h.next + j) = False := fun j => by simp; omega
  have m1 : ∀ j, (h.next + j = mb) = False := fun j => by simp; omega
  have m2 : ∀ j, (h.next + j = k) = False := fun j => by simp; omega
  have hks := hm.len
  have htop := hm.top
  obtain ⟨L, hL⟩ : ∃ L, L = ks.map (rowS n) := ⟨_, rfl⟩
  rw [← hL] at htop k1
  have hLl : L.length = n := by rw [hL]; simp [hks]
  simp only [rowS] at k1
  have i1 : i + 1 ≤ n := hi
  have j1 : j + 1 ≤ n := hj
  have hyl := yCs_len n (A i)
  have hyg : ∀ h' : j < (yCs n (A i)).length, (yCs n (A i))[j]'h' = D.int (A i j) := fun h' => Option.some.inj (by rw [← List.getElem?_eq_getElem h']; exact yCs_get hj)
  have hst : (yCs n (A i)).take j ++ D.int (min (A i j) v) :: (yCs n (A i)).drop (j + 1) = yCs n (updA A i j (min (A i j) v) i) := by
    have : updA A i j (min (A i j) v) i = fun b => if b = j then min (A i j) v else A i b := by funext b; simp [updA]
    rw [this, ← yCs_set, List.set_eq_take_append_cons_drop, if_pos (by rw [hyl]; exact hj)]
  have o1 : ∀ a b c d (e : Option Nat), D.one (.slr a b c d e) = true := fun _ _ _ _ _ => rfl
  have o2 : ∀ a : Int, D.one (.val (.int .i64 a)) = true := fun _ => rfl
  simp [k61, Env.v_ini, rowS, hfr, D.cells, o1, o2, hX, Nat.add_assoc, htop, k1, k4, hLl, i1, j1, hi, hj, hyl, hyg, hst, n1, n2, m1, m2]
  refine ⟨hm.put (B := updA A i j (min (A i j) v)) hi k3 (by simp) (fun q hq hk => ?_) (by simp; omega) (fun a ha => ?_), ⟨by simp; omega, fun q hq hk => ?_⟩, ?_⟩
  · simp [hk, show q ≠ h.next + 4 by omega]
  · funext b; simp [updA, ha]
  · have : q ≠ k := fun e => hk (by rw [e]; exact k2)
    simp [this, show q ≠ h.next + 4 by omega]
  · repeat' first | exact hf | apply Heap.Fr.bump | apply Heap.Fr.set
    all_goals first | omega | (simp <;> omega)
end Go.Proofs.YtlkpikdfbodhoaaDoor
/- The numbers of a net are lowered over one mark, by the program. -/
namespace Go.Proofs.YtlkpikdfbodhoaaDoor
open Go Go.Em Go.Em.Net
set_option maxRecDepth 100000
def stI (k i : Nat) (A : Nat → Nat → Int) (j : Nat) : Nat → Nat → Int := if A k j = 1000000000 then A else updA A i j (min (A i j) (A i k + A k j))
def rowI (k i : Nat) (A : Nat → Nat → Int) : Nat → Nat → Nat → Int
  | 0 => A
  | J + 1 => stI k i (rowI k i A J) J
def stageI (n k : Nat) (A : Nat → Nat → Int) : Nat → Nat → Nat → Int
  | 0 => A
  | I + 1 => if stageI n k A I I k = 1000000000 then stageI n k A I else rowI k I (stageI n k A I) n
structure ThrK (M : List Int) (n k mb bx : Nat) (rk : Nat) (x : Env 58) (i : Nat) : Prop where
  v1 : x.v 1 = D.int k
  v2 : x.v 2 = .ptr bx 0
  v4 : x.v 4 = rowS n rk
  v16 : x.v 16 = rowS n mb
  v17 : x.v 17 = D.int n
  v18 : x.v 18 = D.int i
structure ThrH (M : List Int) (n : Nat) (B : Nat → Nat → Int) (mb bx : Nat) (ks : List Nat) (h0 h : Heap) : Prop where
  mat : Mat n B mb ks h
  only : Only ks h0 h
  box : h.get bx = some (.cells 74 [intsD M, rowS n mb])
  bn : bx < h.next
  bm : bx ≠ mb
  bk : bx ∉ ks
  fr : h.Fr
theorem Mat.bump {n : Nat} {A : Nat → Nat → Int} {mb : Nat} {ks : List Nat} {h : Heap} (m : Mat n A mb ks h) (z : Nat) : Mat n A mb ks (h.bump z) :=
  ⟨m.len, by simp [m.top], m.nd, fun q hq => by have := m.lt q hq; simp; omega, fun j hj => by simp [m.row j hj], by have := m.mlt; simp; omega⟩
theorem Only.bump {ks : List Nat} {h h' : Heap} (o : Only ks h h') (z : Nat) : Only ks h (h'.bump z) := ⟨by have := o.1; simp; omega, fun q h1 h2 => by simp [o.2 q h1 h2]⟩
theorem ThrH.bump {M : List Int} {n : Nat} {B : Nat → Nat → Int} {mb bx : Nat} {ks : List Nat} {h0 h : Heap} (t : ThrH M n B mb bx ks h0 h) (z : Nat) : ThrH M n B mb bx ks h0 (h.bump z) :=
  ⟨t.mat.bump z, t.only.bump z, by simp [t.box], by have := t.bn; simp; omega, t.bm, t.bk, t.fr.bump z⟩
theorem ThrH.put {M : List Int} {n : Nat} {A B : Nat → Nat → Int} {mb bx : Nat} {ks : List Nat} {h0 h : Heap} (t : ThrH M n A mb bx ks h0 h) {i k : Nat} (hi : i < n) (hk : ∀ hj : i < ks.length, ks[i] = k) (hB : ∀ a, a ≠ i → B a = A a) : ThrH M n B mb bx ks h0 (h.set k (some (.cells 3 (yCs n (B i))))) := by
  have hl := t.mat.len
  have hkm : k ∈ ks := by rw [← hk (by omega)]; exact List.getElem_mem _
  have hkn := t.mat.lt k hkm
  refine ⟨t.mat.put (B := B) hi hk (by simp) (fun q hq hk => by simp [hk]) (by simp) hB, ⟨by have := t.only.1; simp; omega, fun q h1 h2 => ?_⟩, ?_, by have := t.bn; simp; omega, t.bm, t.bk, t.fr.set _ hkn.1⟩
  · have : q ≠ k := fun e => h2 (by rw [e]; exact hkm)
    simp [this, t.only.2 q h1 h2]
  · have : bx ≠ k := fun e => t.bk (by rw [e]; exact hkm)
    simp [this, t.box]
end Go.Proofs.YtlkpikdfbodhoaaDoor
/- The numbers of a net are lowered over one mark, by the program: all rows. -/
namespace Go.Proofs.YtlkpikdfbodhoaaDoor
open Go Go.Em Go.Em.Net
set_option maxRecDepth 100000
theorem Res.fin {o : Option (Ex × St)} {id : Nat} {R : Rc} {rs : List (ResultVar × Bool × Nat)} {P : Ex → St → Prop} {r : Out} {C : Heap → Prop} (h : Res o P)
    (hk : ∀ x s, P x s → ∃ h', endH R rs (blockK id (some (x, s))) = some (r, h') ∧ C h') : ∃ h', endH R rs (blockK id o) = some (r, h') ∧ C h' := by
  obtain ⟨x, s, rfl, p⟩ := h; exact hk x s p
end Go.Proofs.YtlkpikdfbodhoaaDoor
/- The closure of a graph, by the program. -/
namespace Go.Proofs.YtlkpikdfbodhoaaDoor
open Go Go.Em Go.Em.Net
set_option maxRecDepth 100000
def lowI (A : Nat → Nat → Int) (m : Mo) : Nat → Nat → Int := updA A m.fr m.to_ (min (A m.fr m.to_) m.mo)
def farN (n : Nat) : Nat → Nat → Int := fun i j => if j = i ∧ i < n then 0 else 1000000000
def initI (n : Nat) (l : List Mo) : Nat → Nat → Int := l.foldl lowI (farN n)
theorem Mat.congr {n : Nat} {A B : Nat → Nat → Int} {mb : Nat} {ks : List Nat} {h : Heap} (m : Mat n A mb ks h) (he : ∀ a b, a < n → b < n → A a b = B a b) : Mat n B mb ks h := by
  refine ⟨m.len, m.top, m.nd, m.lt, fun j hj => ?_, m.mlt⟩
  have hl := m.len
  rw [m.row j hj]
  have : yCs n (A j) = yCs n (B j) := by
    unfold yCs
    refine List.map_congr_left fun v hv => ?_
    rw [he j v (by omega) (List.mem_range.1 hv)]
  rw [this]
def closI (n : Nat) (A : Nat → Nat → Int) : Nat → Nat → Nat → Int
  | 0 => A
  | k + 1 => stageI n k (closI n A k) n
structure CloH (M : List Int) (B : Nat → Nat → Int) (mb gb rb : Nat) (ks : List Nat) (l : List Mo) (h : Heap) : Prop where
  mat : Mat M.length B mb ks h
  g : h.get gb = some (.cells 83 [intsD M, mosD l])
  r : h.get rb = some (.cells 74 [intsD M, rowS M.length mb])
  gn : gb < h.next
  rn : rb < h.next
  d1 : gb ≠ mb
  d2 : rb ≠ mb
  d3 : gb ∉ ks
  d4 : rb ∉ ks
  fr : h.Fr
theorem CloH.bump {M : List Int} {B : Nat → Nat → Int} {mb gb rb : Nat} {ks : List Nat} {l : List Mo} {h : Heap} (t : CloH M B mb gb rb ks l h) (z : Nat) : CloH M B mb gb rb ks l (h.bump z) :=
  ⟨t.mat.bump z, by simp [t.g], by simp [t.r], by have := t.gn; simp; omega, by have := t.rn; simp; omega, t.d1, t.d2, t.d3, t.d4, t.fr.bump z⟩
theorem CloH.new {M : List Int} {B : Nat → Nat → Int} {mb gb rb : Nat} {ks : List Nat} {l : List Mo} {h : Heap} (t : CloH M B mb gb rb ks l h) {q : Nat} (b : Option Blk) (h1 : ∀ p, p = mb ∨ p = gb ∨ p = rb ∨ p ∈ ks → p ≠ q) (h2 : q < h.next) : CloH M B mb gb rb ks l (h.set q b) := by
  have hm := h1 mb (.inl rfl)
  have hg := h1 gb (.inr (.inl rfl))
  have hr := h1 rb (.inr (.inr (.inl rfl)))
  exact ⟨⟨t.mat.len, by simp [hm, t.mat.top], t.mat.nd, fun q hq => by simpa using t.mat.lt q hq, fun j hj => by simp [h1 _ (.inr (.inr (.inr (List.getElem_mem hj)))), t.mat.row j hj], by simpa using t.mat.mlt⟩, by simp [hg, t.g], by simp [hr, t.r], by simpa using t.gn, by simpa using t.rn, t.d1, t.d2, t.d3, t.d4, t.fr.set _ h2⟩
def C1 (M : List Int) (l : List Mo) (mb gb rb : Nat) (ks : List Nat) (c : Nat) (s : St) : Prop := ∃ (x : Env 41) (h : Heap) (i : Nat), s = ⟨x.l, h, []⟩ ∧ i + c = M.length ∧ x.v 2 = .ptr rb 0 ∧ x.v 32 = D.int M.length ∧ x.v 33 = D.int i ∧ CloH M (closI M.length (initI M.length l) i) mb gb rb ks l h
end Go.Proofs.YtlkpikdfbodhoaaDoor
/- The closure of a graph, by the program: the answer. -/
namespace Go.Proofs.YtlkpikdfbodhoaaDoor
open Go Go.Em Go.Em.Net
set_option maxRecDepth 100000
def rowsD (n : Nat) (A : Nat → Nat → Int) : D := .sl false ((List.range n).map fun i => .sl false (yCs n (A i)))
theorem yCs_canon (n : Nat) (y : Nat → Int) : D.canonL (yCs n y) = true := canonL_map _ (fun _ => rfl) _
theorem frz_row {h : Heap} {n k d : Nat} {y : Nat → Int} (hg : h.get k = some (.cells 3 (yCs n y))) : frz h (d + 2) (rowS n k) = some (.sl false (yCs n y), [k]) := by
  unfold rowS
  rw [frz_slr, hg, frzS_cells]
  have hle : 0 + n * 1 ≤ (yCs n y).length ∧ 0 < 1 := by rw [yCs_len]; omega
  have htk : ((yCs n y).drop 0).take (n * 1) = yCs n y := List.take_of_length_le (by rw [List.drop_zero, yCs_len]; omega)
  rw [if_pos hle, htk, each_canon h d _ (yCs_canon n y)]
  simp only [Option.map_some]
  rw [chunk_one n _ (yCs_len n y)]
theorem frz_rows {h : Heap} {n d : Nat} : ∀ (ks : List Nat) (A : Nat → Nat → Int), (∀ j, ∀ hj : j < ks.length, h.get ks[j] = some (.cells 3 (yCs n (A j)))) → each (frz h (d + 2)) (ks.map (rowS n)) = some ((List.range ks.length).map fun i => .sl false (yCs n (A i)), ks)
  | [], _, _ => by simp
  | k :: ks, A, hg => by
    have h0 : h.get k = some (.cells 3 (yCs n (A 0))) := hg 0 (by simp)
    have ih := frz_rows (d := d) ks (fun i => A (i + 1)) fun j hj => hg (j + 1) (by simp; omega)
    rw [List.map_cons, each_cons, frz_row h0, ih, eachK_some, List.length_cons, List.range_succ_eq_map, List.map_cons, List.map_map]
    rfl
theorem frz_mat {h : Heap} {n d mb : Nat} {ks : List Nat} {A : Nat → Nat → Int} (m : Mat n A mb ks h) : frz h (d + 3) (rowS n mb) = some (rowsD n A, mb :: ks) := by
  have hl := m.len
  rw [show rowS n mb = D.slr mb 0 n 1 (some n) from rfl, frz_slr, m.top, frzS_cells]
  have hle : 0 + n * 1 ≤ (ks.map (rowS n)).length ∧ 0 < 1 := by simp; omega
  have htk : ((ks.map (rowS n)).drop 0).take (n * 1) = ks.map (rowS n) := List.take_of_length_le (by simp; omega)
  rw [if_pos hle, htk, frz_rows ks A m.row]
  simp only [Option.map_some]
  rw [chunk_one n _ (by simp [hl]), hl]
  rfl
end Go.Proofs.YtlkpikdfbodhoaaDoor
/- The program's numbers of a net are those of the mathematical one, no bound being 1000000000. -/
namespace Go.Proofs.YtlkpikdfbodhoaaDoor
open Go Go.Em Go.Em.Net
def enc (o : Option Int) : Int := o.getD 1000000000
def encM (N : Mx) : Nat → Nat → Int := fun a b => enc (N a b)
def Bt (N : Mx) : Prop := ∀ a b z, N a b = some z → -100000000 ≤ z ∧ z ≤ 100000000
theorem enc_far {N : Mx} (h : Bt N) {a b : Nat} : enc (N a b) = 1000000000 ↔ N a b = none := by
  cases e : N a b with
  | none => simp [enc]
  | some z => have := h a b z e; simp [enc]; omega
theorem st_enc {N : Mx} (h : Bt N) {k i j : Nat} {c : Int} (hc : N i k = some c) : stI k i (encM N) j = encM (setM N i j (comb N k i j)) := by
  unfold stI
  by_cases hf : encM N k j = 1000000000
  · have hn : N k j = none := (enc_far h).1 hf
    rw [if_pos hf]
    have : comb N k i j = N i j := by unfold comb; rw [hc, hn]
    rw [this]
    funext a b
    unfold encM setM
    split
    · rename_i e; rw [e.1, e.2]
    · rfl
  · obtain ⟨d, hd⟩ : ∃ d, N k j = some d := by
      cases e : N k j with
      | none => exact absurd (by simp [encM, enc, e]) hf
      | some d => exact ⟨d, rfl⟩
    rw [if_neg hf]
    have b1 := h i k c hc
    have b2 := h k j d hd
    funext a b
    unfold updA encM setM
    split
    · unfold comb
      rw [hc, hd]
      cases e : N i j with
      | none => simp [enc]; omega
      | some z => simp [enc]
    · rfl
theorem rowI_enc {M : Mx} {k i : Nat} {c : Int} (hk : M k k = some 0) (hc : M i k = some c) (h1 : Bt M) (h2 : ∀ b z, comb M k i b = some z → -100000000 ≤ z ∧ z ≤ 100000000) : ∀ J, rowI k i (encM M) J = encM (rowT k i M J) ∧ Bt (rowT k i M J)
  | 0 => ⟨rfl, h1⟩
  | J + 1 => by
    obtain ⟨e, hb⟩ := rowI_enc hk hc h1 h2 J
    have hN : ∃ c', rowT k i M J i k = some c' := by
      rw [rowT_eq hk]
      show ∃ c', (if i = i ∧ k < J then comb M k i k else M i k) = some c'
      rw [comb_col hk, hc]
      exact ⟨c, by split <;> rfl⟩
    obtain ⟨c', hc'⟩ := hN
    refine ⟨?_, fun a b z hz => ?_⟩
    · rw [rowI, e, st_enc hb hc']; rfl
    · rw [rowT_eq hk] at hz
      simp only at hz
      split at hz
      · exact h2 b z hz
      · exact h1 a b z hz
theorem stageI_enc {n k : Nat} {M : Mx} (hk : M k k = some 0) (ho : Out n M) (hkn : k < n) (h1 : Bt M) (h2 : Bt (comb M k)) : ∀ I, stageI n k (encM M) I = encM (stageT n k M I) ∧ Bt (stageT n k M I) ∧ (stageT n k M I) k k = some 0 ∧ Out n (stageT n k M I) ∧ ∀ c, stageT n k M I I k = some c → ∀ b z, comb (stageT n k M I) k I b = some z → -100000000 ≤ z ∧ z ≤ 100000000 := by
  have facts : ∀ I, Bt (stageT n k M I) ∧ (stageT n k M I) k k = some 0 ∧ Out n (stageT n k M I) ∧ ∀ c, stageT n k M I I k = some c → ∀ b z, comb (stageT n k M I) k I b = some z → -100000000 ≤ z ∧ z ≤ 100000000 := by
    intro I
    rw [stageT_eq hk ho hkn I]
    refine ⟨fun a b z hz => ?_, ?_, fun a b hab => ?_, fun c _ b z hz => ?_⟩
    · simp only at hz
      split at hz
      · exact h2 a b z hz
      · exact h1 a b z hz
    · show (if k < I then comb M k k k else M k k) = some 0
      rw [comb_row hk, hk]; split <;> rfl
    · show (if a < I then comb M k a b else M a b) = none
      rw [ho a b hab, ho.comb hkn a b hab]; split <;> rfl
    · have : comb (fun a b => if a < I then comb M k a b else M a b) k I b = comb M k I b := by
        show (match (if I < I then comb M k I k else M I k), (if k < I then comb M k k b else M k b) with
          | some a, some b' => (match (if I < I then comb M k I b else M I b) with | some c => some (min c (a + b')) | none => some (a + b'))
          | _, _ => (if I < I then comb M k I b else M I b)) = _
        have e2 : (if k < I then comb M k k b else M k b) = M k b := by rw [comb_row hk]; split <;> rfl
        rw [e2, if_neg (Nat.lt_irrefl I), if_neg (Nat.lt_irrefl I)]
        rfl
      rw [this] at hz
      exact h2 I b z hz
  intro I
  refine ⟨?_, facts I⟩
  induction I with
  | zero => rfl
  | succ I ih =>
    obtain ⟨b1, b2, b3, b4⟩ := facts I
    rw [stageI, ih]
    by_cases hf : encM (stageT n k M I) I k = 1000000000
    · have hn : stageT n k M I I k = none := (enc_far b1).1 hf
      rw [if_pos hf, stageT, row_full b2 b3 hkn]
      congr 1
      funext a b
      by_cases ha : a = I
      · subst ha
        have : comb (stageT n k M a) k a b = stageT n k M a a b := by unfold comb; rw [hn]
        simp [this]
      · simp [ha]
    · rw [if_neg hf]
      cases hc : stageT n k M I I k with
      | none => exact absurd ((enc_far b1).2 hc) hf
      | some c => exact (rowI_enc b2 hc b1 (b4 c hc) n).1
theorem enc_bd {N : Mx} (h : Bt N) (a b : Nat) : -1000000000000 ≤ encM N a b ∧ encM N a b ≤ 1000000000000 := by
  unfold encM
  cases e : N a b with
  | none => simp [enc]
  | some z => have := h a b z e; simp [enc]; omega
end Go.Proofs.YtlkpikdfbodhoaaDoor
/- The net of the moves along claims; when claims contradict. -/
namespace Go.Proofs.YtlkpikdfbodhoaaDoor
open Go Go.Em Go.Em.Net
def lowV (o : Option Int) (v : Int) : Option Int := match o with
  | none => some v
  | some z => some (min z v)
def lowM (N : Mx) (m : Mo) : Mx := setM N m.fr m.to_ (lowV (N m.fr m.to_) m.mo)
theorem low_enc {N : Mx} (h : Bt N) {m : Mo} (h1 : -100000 ≤ m.mo) (h2 : m.mo ≤ 100000) : lowI (encM N) m = encM (lowM N m) ∧ Bt (lowM N m) := by
  constructor
  · funext a b
    unfold lowI updA encM lowM setM
    split
    · unfold lowV
      cases e : N m.fr m.to_ with
      | none => simp [enc]; omega
      | some z => simp [enc]
    · rfl
  · intro a b z hz
    unfold lowM setM at hz
    split at hz
    · unfold lowV at hz
      split at hz
      · have := Option.some.inj hz; omega
      · rename_i y hy
        have := Option.some.inj hz
        have := h _ _ y hy
        omega
    · exact h a b z hz
end Go.Proofs.YtlkpikdfbodhoaaDoor
/- The closure of claims, by the program. -/
namespace Go.Proofs.YtlkpikdfbodhoaaDoor
open Go Go.Em Go.Em.Net
set_option maxRecDepth 100000
theorem ok_differ {c : Clm} (h : okF c = true) : c.a ≠ c.b := by
  unfold okF at h
  simp only [Bool.and_eq_true, bne_iff_ne] at h
  exact h.1.1.1.2
end Go.Proofs.YtlkpikdfbodhoaaDoor
