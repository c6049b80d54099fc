/- The library's sort, by its Lean model: exchanges; the insertion sort. -/
import Derived.Test.YtmncdmpeeibgmaaGreatDoorWo1
import Derived.Sort.AssemblyPlain
import Derived.Test.YtmncdmpeeibgmaaGreatDoorMul
namespace Go.Proofs.YtmncdmpeeibgmaaGreatDoor
open Go Go.Em
set_option maxRecDepth 100000
class Tl where
  z : List D
set_option linter.unusedSectionVars false
variable [Tl]
def dl (d : Array Int) : List D := d.toList.map D.int ++ Tl.z
structure SD (kb : Nat) (d : Array Int) (h0 h : Heap) : Prop where
  g : h.get kb = some (.cells 3 (dl d))
  u : ∀ q, q ≠ kb → q < h0.next → h.raw q = h0.raw q
  n : h0.next ≤ h.next
  k : kb < h0.next
  fr : h.Fr
theorem SD.bump {kb : Nat} {d : Array Int} {h0 h : Heap} (s : SD kb d h0 h) (z : Nat) : SD kb d h0 (h.bump z) :=
  ⟨by simp [s.g], fun q h1 h2 => by simp [s.u q h1 h2], by have := s.n; simp; omega, s.k, s.fr.bump z⟩
theorem SD.put {kb : Nat} {d : Array Int} {h0 h : Heap} (s : SD kb d h0 h) (d' : Array Int) : SD kb d' h0 (h.set kb (some (.cells 3 (dl d')))) :=
  ⟨by simp, fun q h1 h2 => by simp [h1, s.u q h1 h2], by have := s.n; simp; omega, s.k, s.fr.set _ (by have := s.n; have := s.k; omega)⟩
theorem SD.setL {kb : Nat} {d : Array Int} {h0 h : Heap} (s : SD kb d h0 h) {L : List D} {d' : Array Int} (e : L = dl d') : SD kb d' h0 (h.set kb (some (.cells 3 L))) := e ▸ s.put d'
theorem SD.trans {kb : Nat} {d d' : Array Int} {h0 h1 h2 : Heap} (s : SD kb d h0 h1) (t : SD kb d' h1 h2) : SD kb d' h0 h2 :=
  ⟨t.g, fun q a b => by rw [t.u q a (by have := s.n; omega), s.u q a b], by have := s.n; have := t.n; omega, s.k, t.fr⟩
theorem SD.refl {kb : Nat} {d : Array Int} {h : Heap} (hg : h.get kb = some (.cells 3 (dl d))) (hk : kb < h.next) (hf : h.Fr) : SD kb d h h := ⟨hg, fun _ _ _ => rfl, Nat.le_refl _, hk, hf⟩
theorem dl_le {d : Array Int} {C : List D} (hC : C = dl d) : (∀ i, i ≤ d.size → i ≤ C.length) ∧ ∀ i, i < d.size → i < C.length := by
  subst hC
  have e : (dl d).length = d.size + Tl.z.length := by simp [dl]
  exact ⟨fun i h => by omega, fun i h => by omega⟩
theorem dl_get {d : Array Int} {i : Nat} (hi : i < d.size) : (dl d)[i]? = some (D.int d[i]!) := by
  unfold dl
  rw [List.getElem?_append_left (by simpa using hi)]
  simp [hi]
theorem dl_at {d : Array Int} {i : Nat} (hi : i < d.size) : ∀ h' : i < (dl d).length, (dl d)[i]'h' = D.int d[i]! := fun h' => by
  have := dl_get hi
  rw [List.getElem?_eq_getElem h'] at this
  exact Option.some.inj this
theorem qdl_get {d : Array Int} {i : Nat} (hi : i < d.size) : (dl d)[i]?.getD D.junk = D.int d[i]! := by
  rw [dl_get hi]; rfl
theorem dl_put {d : Array Int} {i : Nat} (hi : i < d.size) (v : Int) : (dl d).take i ++ D.int v :: (dl d).drop (i + 1) = dl (d.setIfInBounds i v) := by
  have e : (dl d).set i (D.int v) = (dl d).take i ++ D.int v :: (dl d).drop (i + 1) := by rw [List.set_eq_take_append_cons_drop, if_pos ((dl_le rfl).2 i hi)]
  rw [← e]
  unfold dl
  rw [List.set_append_left _ _ (by simpa using hi), Array.toList_setIfInBounds, List.map_set]
theorem sz_set (d : Array Int) (i : Nat) (v : Int) : (d.setIfInBounds i v).size = d.size := by simp
theorem sz_swp (d : Array Int) (i j : Nat) : (Go.Sort.swp d i j).size = d.size := by simp [Go.Sort.swp]
theorem dl_swp {d : Array Int} {i j : Nat} (hi : i < d.size) (hj : j < d.size) : (dl (d.setIfInBounds i d[j]!)).take j ++ D.int d[i]! :: (dl (d.setIfInBounds i d[j]!)).drop (j + 1) = dl (Go.Sort.swp d i j) := by
  rw [dl_put (by rw [sz_set]; exact hj)]; rfl
theorem SD.two {kb : Nat} {d : Array Int} {h0 h : Heap} (s : SD kb d h0 h) {L L' : List D} {d' : Array Int} {i : Nat} {v : Int} (e : L = dl (d.setIfInBounds i v)) (e' : L' = dl d') : SD kb d' h0 ((h.set kb (some (.cells 3 L))).set kb (some (.cells 3 L'))) := (s.setL e).setL e'
theorem swp_facts {d : Array Int} {i j : Nat} (hi : i < d.size) (hj : j < d.size) : ∃ (C C1 C2 : List D) (vi vj : Int), C = dl d ∧ ((∀ i, i ≤ d.size → i ≤ C.length) ∧ ∀ i, i < d.size → i < C.length) ∧ ((∀ i, i ≤ d.size → i ≤ C1.length) ∧ ∀ i, i < d.size → i < C1.length) ∧ ((∀ i, i ≤ d.size → i ≤ C2.length) ∧ ∀ i, i < d.size → i < C2.length) ∧ C[i]?.getD D.junk = .int vi ∧ C[j]?.getD D.junk = .int vj ∧ (∀ h' : i < C.length, C[i]'h' = .int vi) ∧ (∀ h' : j < C.length, C[j]'h' = .int vj) ∧ C.take i ++ .int vj :: C.drop (i + 1) = C1 ∧ C1.take j ++ .int vi :: C1.drop (j + 1) = C2 ∧ C1 = dl (d.setIfInBounds i vj) ∧ C2 = dl (Go.Sort.swp d i j) ∧ d[i]! = vi ∧ d[j]! = vj := by
  refine ⟨dl d, dl (d.setIfInBounds i d[j]!), dl (Go.Sort.swp d i j), d[i]!, d[j]!, rfl, dl_le rfl, ?_, ?_, qdl_get hi, qdl_get hj, dl_at hi, dl_at hj, dl_put hi d[j]!, dl_swp hi hj, rfl, rfl, rfl, rfl⟩
  · have := dl_le (d := d.setIfInBounds i d[j]!) rfl; rwa [sz_set] at this
  · have := dl_le (d := Go.Sort.swp d i j) rfl; rwa [sz_swp] at this
theorem qnan_run (a : Int) {n : Nat} (hn : 1 ≤ n) : pureCall (rc pg n) 119 [D.int a] = some (.ret (D.bool false)) := by
  obtain ⟨m, rfl, e⟩ := body (pg := pg) (f := 119) (args := [D.int a]) (show 0 < n by omega) rfl rfl
  rw [e]
  have h : (a != a) = false := by simp
  simp [-bne_eq_false_iff_eq, k119, Env.v_ini]
theorem lss_run (a b : Int) {n : Nat} (hn : 2 ≤ n) : pureCall (rc pg n) 86 [D.int a, D.int b] = some (.ret (D.bool (Go.Sort.ltInt a b))) := by
  obtain ⟨m, rfl, e⟩ := body (pg := pg) (f := 86) (args := [D.int a, D.int b]) (show 0 < n by omega) rfl rfl
  rw [e]
  have c := fun h => call_of (h := h) (pg := pg) (f := 119) rfl (by simp) (qnan_run a (n := m) (by omega))
  by_cases hl : a < b
  · have : Go.Sort.ltInt a b = true := by unfold Go.Sort.ltInt; simp [hl]
    rw [this]
    simp [k86, Env.v_ini, c, hl]
  · have : Go.Sort.ltInt a b = false := by unfold Go.Sort.ltInt; simp [hl]
    rw [this]
    simp [k86, Env.v_ini, c, hl]
abbrev lt : Int → Int → Bool := Go.Sort.ltInt
def qII (T : Array Int) (a : Nat) (kb N : Nat) (cap : Option Nat) (x0 : Env 49) (h0 : Heap) (k : Nat) (s : St) : Prop := ∃ (x : Env 49) (h : Heap) (d : Array Int), s = ⟨x.l, h, []⟩ ∧ (∀ q, q < 7 → x.v q = x0.v q) ∧ x.v 0 = .slr kb 0 N 1 cap ∧ x.v 1 = D.int a ∧ x.v 7 = D.int k ∧ k < N ∧ d.size = N ∧ SD kb d h0 h ∧ Go.Sort.insInner lt a k d = T
def qIQ (T : Array Int) (kb N : Nat) (x0 : Env 49) (h0 : Heap) (x : Ex) (s : St) : Prop := x = .exit 2 ∧ ∃ (x : Env 49) (h : Heap), s = ⟨x.l, h, []⟩ ∧ (∀ q, q < 7 → x.v q = x0.v q) ∧ T.size = N ∧ SD kb T h0 h
theorem ins_step (d : Array Int) (a j : Nat) : Go.Sort.insInner lt a (j + 1) d = if (j + 1 > a && lt d[j + 1]! d[j]!) = true then Go.Sort.insInner lt a j (Go.Sort.swp d (j + 1) j) else d := rfl
set_option maxHeartbeats 8000000 in
theorem ins_round (T : Array Int) (a kb N : Nat) (hN : N ≤ 1000000) (cap : Option Nat) (x0 : Env 49) (h0 : Heap) : ∀ n, 2 ≤ n → ∀ k s, qII T a kb N cap x0 h0 k s → Res (k80l0.ev ⟨pg, 49, none⟩ (rc pg n) s) (Rnd (qII T a kb N cap x0 h0) (qIQ T kb N x0 h0) k) := by
  rintro n hn k s ⟨x, h, d, rfl, sm, v0, v1, v7, hk, hd, sd, hT⟩
  have g := sd.g
  have s117 : pg.sh 86 = false := rfl
  have ne : ∀ {q : Nat}, q < 7 → ∀ t, 7 ≤ t → (t = q) = False := fun hq t ht => by simp; omega
  cases k with
  | zero =>
    have hT' : d = T := by rw [← hT]; rfl
    have q1' : ¬ ((a : Int) < 0) := by omega
    simp [k80l0, v1, v7, q1', dcore_f, s117]
    exact ⟨rfl, _, _, rfl, fun q hq => by simp [ne hq, sm q hq], hT' ▸ hd, hT' ▸ sd.bump _⟩
  | succ j =>
    by_cases hja : j + 1 > a
    · have q1' : ((a : Int) < (j : Int) + 1) := by omega
      have hj : j < d.size := by omega
      have hj1 : j + 1 < d.size := by omega
      have w1 : IntKind.i64.wrap (j : Int) = (j : Int) := wrap_i64 (by omega) (by omega)
      have r := lss_run d[j + 1]! d[j]! (n := n) hn
      have l1 : j + 1 ≤ N := by omega
      have l2 : j + 1 + 1 ≤ N := by omega
      have b1 : (0 : Int) ≤ (j : Int) + 1 := by omega
      have b2 : (j : Int) + 1 < (N : Int) := by omega
      have b3 : j < N := by omega
      rw [ins_step] at hT
      obtain ⟨C, C1, C2, vi, vj, hC, hl, hl1, hl2, f2, f1, e2, e1, p1, p2, c1, c2, y2, y1⟩ := swp_facts hj1 hj
      rw [y1, y2] at hT r
      rw [← hC] at g
      cases hlt : Go.Sort.ltInt vi vj with
      | true =>
        rw [if_pos (by simp [hja, lt, hlt])] at hT
        rw [hlt] at r
        simp [k80l0, v0, v1, v7, q1', w1, D.cells, D.one, g, hl, hl1, hd, e1, f2, p1, p2, l1, l2, b1, b2, b3, dcore_f, s117, r]
        exact ⟨_, _, _, rfl, fun q hq => by simp [ne hq, sm q hq], by simp [v0], by simp [v1], by simp, by omega, by rw [sz_swp, hd], ((((sd.bump _).bump _).setL c1).setL c2).bump _, hT⟩
      | false =>
        rw [if_neg (by simp [lt, hlt])] at hT
        subst hT
        rw [hlt] at r
        simp [k80l0, v0, v1, v7, q1', w1, g, hl, hd, e1, f2, l1, l2, b1, b2, b3, dcore_f, s117, r]
        exact ⟨rfl, _, _, rfl, fun q hq => by simp [ne hq, sm q hq], hd, sd.bump _⟩
    · have q1 : ¬ ((j : Int) + 1 > (a : Int)) := by omega
      rw [ins_step, if_neg (by simp [hja])] at hT
      subst hT
      simp [k80l0, v1, v7, q1, dcore_f, s117]
      exact ⟨rfl, _, _, rfl, fun q hq => by simp [ne hq, sm q hq], hd, sd.bump _⟩
end Go.Proofs.YtmncdmpeeibgmaaGreatDoor
/- The library's sort: the insertion sort, the reversal of a range. -/

namespace Go.Proofs.YtmncdmpeeibgmaaGreatDoor
open Go Go.Em
set_option maxRecDepth 100000
set_option linter.unusedSectionVars false
variable [Tl]
theorem Res.qb {L : Option (Ex × St)} {i1 i2 : Nat} {F : St → Option (Ex × St)} {P Q : Ex → St → Prop} (h : Res L P) (hk : ∀ x s, P x s → Res (andThen (blockK i1 (blockK i2 (some (x, s)))) F) Q) : Res (andThen (blockK i1 (blockK i2 L)) F) Q := by
  obtain ⟨x, s, rfl, p⟩ := h; exact hk x s p
def qIO (T : Array Int) (a b kb N : Nat) (cap : Option Nat) (h0 : Heap) (k : Nat) (s : St) : Prop := ∃ (x : Env 49) (h : Heap) (d : Array Int) (i : Nat), s = ⟨x.l, h, []⟩ ∧ i + k = max b i ∧ x.v 0 = .slr kb 0 N 1 cap ∧ x.v 1 = D.int a ∧ x.v 2 = D.int b ∧ x.v 6 = D.int i ∧ d.size = N ∧ SD kb d h0 h ∧ Go.Sort.insOuter lt a b i d = T
def qSQ (T : Array Int) (kb N : Nat) (h0 : Heap) (s : St) : Prop := ∃ (M : Nat) (x : Env M) (h : Heap), s = ⟨x.l, h, []⟩ ∧ T.size = N ∧ SD kb T h0 h
theorem insOuter_lt {a b i : Nat} {d : Array Int} (h : i < b) : Go.Sort.insOuter lt a b i d = Go.Sort.insOuter lt a b (i + 1) (Go.Sort.insInner lt a i d) := by
  rw [Go.Sort.insOuter, if_pos h]
theorem insOuter_ge {a b i : Nat} {d : Array Int} (h : ¬ i < b) : Go.Sort.insOuter lt a b i d = d := by
  rw [Go.Sort.insOuter, if_neg h]
set_option maxHeartbeats 8000000 in
theorem inso_round (T : Array Int) (a b kb N : Nat) (hN : N ≤ 1000000) (hb : b ≤ N) (cap : Option Nat) (h0 : Heap) : ∀ n, N + 10 ≤ n → ∀ k s, qIO T a b kb N cap h0 k s → Res (k80l1.ev ⟨pg, 49, none⟩ (rc pg n) s) (Rnd (qIO T a b kb N cap h0) (fun x s => x = .exit 0 ∧ qSQ T kb N h0 s) k) := by
  rintro n hn k s ⟨x, h, d, i, rfl, hk, v0, v1, v2, v6, hd, sd, hT⟩
  by_cases hi : i < b
  · rw [insOuter_lt hi] at hT
    have w1 : IntKind.i64.wrap ((i : Int) + 1) = (i : Int) + 1 := wrap_i64 (by omega) (by omega)
    simp [k80l1, v2, v6, hi, ev_loop]
    obtain ⟨x0, hx0⟩ : ∃ x0 : Env 49, x0 = ((((x.upd 10 (D.int i)).upd 11 (D.int b)).upd 12 (D.bool true)).upd 15 (D.int i)).upd 7 (D.int i) := ⟨_, rfl⟩
    refine Res.qb (lp_rule 2 (qII (Go.Sort.insInner lt a i d) a kb N cap x0 h0) _ (ins_round _ a kb N hN cap x0 h0) i n _ (by omega) ⟨x0, _, d, by rw [hx0], fun _ _ => rfl, by simp [hx0, v0], by simp [hx0, v1], by simp [hx0], by omega, hd, ?_, rfl⟩) ?_
    · first | exact sd | exact sd.bump _ | exact (sd.bump _).bump _
    · rintro x1 s1 ⟨rfl, y, h', rfl, sm, hd', sd'⟩
      have y0 := sm 0 (by omega)
      have y1 := sm 1 (by omega)
      have y2 := sm 2 (by omega)
      have y6 := sm 6 (by omega)
      simp [hx0, v0, v1, v2, v6] at y0 y1 y2 y6
      simp [y6, w1]
      exact ⟨k - 1, by omega, _, _, _, i + 1, rfl, by omega, by simp [y0], by simp [y1], by simp [y2], by simp, hd', by first | exact sd' | exact sd'.bump _ | exact (sd'.bump _).bump _, hT⟩
  · rw [insOuter_ge hi] at hT
    subst hT
    simp [k80l1, v2, v6, hi]
    exact ⟨_, _, _, rfl, hd, sd.bump _⟩
set_option maxHeartbeats 8000000 in
theorem insort_sh {kb : Nat} {d : Array Int} {h : Heap} (hg : h.get kb = some (.cells 3 (dl d))) (hk : kb < h.next) (hf : h.Fr) {N : Nat} (hd : d.size = N) (hN : N ≤ 1000000) (cap : Option Nat) {a b : Nat} (hab : a ≤ b) (hb : b ≤ N) {n : Nat} (hn : 2 * N + 20 ≤ n) :
    ∃ h', (rc pg n).fn 80 [.slr kb 0 N 1 cap, D.int a, D.int b] h = some (.ret (.tup []), h') ∧ SD kb (Go.Sort.insertionSort lt d a b) h h' ∧ (Go.Sort.insertionSort lt d a b).size = N := by
  obtain ⟨m, rfl, e⟩ := fn_body (pg := pg) (f := 80) (args := [.slr kb 0 N 1 cap, D.int a, D.int b]) (h := h) (show 0 < n by omega) rfl rfl
  rw [e]
  have w1 : IntKind.i64.wrap ((a : Int) + 1) = (a : Int) + 1 := wrap_i64 (by omega) (by omega)
  have sd := SD.refl hg hk hf
  simp [k80, Env.v_ini, w1, ev_loop]
  refine Res.fin (lp_rule (N + 10) (qIO (Go.Sort.insertionSort lt d a b) a b kb N cap h) _ (inso_round _ a b kb N hN hb cap h) (b - (a + 1)) m _ (by omega) ⟨_, _, d, a + 1, rfl, by omega, by simp [Env.v_ini], by simp [Env.v_ini], by simp [Env.v_ini], by simp, hd, by first | exact sd | exact sd.bump _, rfl⟩) ?_
  rintro x s ⟨rfl, M, y, h', rfl, hd', sd'⟩
  simp
  exact ⟨sd', hd'⟩
/-! ### The reversal of a range -/
def qRO (T : Array Int) (kb N : Nat) (cap : Option Nat) (h0 : Heap) (k : Nat) (s : St) : Prop := ∃ (x : Env 32) (h : Heap) (d : Array Int) (i j : Nat), s = ⟨x.l, h, []⟩ ∧ j ≤ i + k ∧ x.v 0 = .slr kb 0 N 1 cap ∧ x.v 6 = D.int i ∧ x.v 7 = D.int j ∧ j < N ∧ d.size = N ∧ SD kb d h0 h ∧ Go.Sort.reverseLoop i j d = T
theorem rev_lt {i j : Nat} {d : Array Int} (h : i < j) : Go.Sort.reverseLoop i j d = Go.Sort.reverseLoop (i + 1) (j - 1) (Go.Sort.swp d i j) := by
  rw [Go.Sort.reverseLoop, if_pos h]
theorem rev_ge {i j : Nat} {d : Array Int} (h : ¬ i < j) : Go.Sort.reverseLoop i j d = d := by
  rw [Go.Sort.reverseLoop, if_neg h]
set_option maxHeartbeats 8000000 in
theorem rev_round (T : Array Int) (kb N : Nat) (hN : N ≤ 1000000) (cap : Option Nat) (h0 : Heap) : ∀ n, 2 ≤ n → ∀ k s, qRO T kb N cap h0 k s → Res (k84l0.ev ⟨pg, 32, none⟩ (rc pg n) s) (Rnd (qRO T kb N cap h0) (fun x s => x = .exit 0 ∧ qSQ T kb N h0 s) k) := by
  rintro n hn k s ⟨x, h, d, i, j, rfl, hk, v0, v6, v7, hj, hd, sd, hT⟩
  have g := sd.g
  by_cases hi : i < j
  · rw [rev_lt hi] at hT
    have hiN : i < d.size := by omega
    have hjN : j < d.size := by omega
    obtain ⟨C, C1, C2, vi, vj, hC, hl, hl1, hl2, f1, f2, e1, e2, p1, p2, c1, c2, y1, y2⟩ := swp_facts hiN hjN
    rw [← hC] at g
    have w1 : IntKind.i64.wrap ((i : Int) + 1) = (i : Int) + 1 := wrap_i64 (by omega) (by omega)
    have w2 : IntKind.i64.wrap ((j : Int) - 1) = ((j - 1 : Nat) : Int) := by rw [wrap_i64 (by omega) (by omega)]; omega
    have l1 : i + 1 ≤ N := by omega
    have l2 : j + 1 ≤ N := by omega
    have l3 : i < N := by omega
    simp [k84l0, v0, v6, v7, hi, w1, w2, D.cells, D.one, g, hl, hl1, hd, e1, e2, p1, p2, l1, l2, l3, hj]
    exact ⟨k - 1, by omega, _, _, _, i + 1, j - 1, rfl, by omega, by simp [v0], by simp, by simp, by omega, by rw [Go.Sort.swp]; simp [hd], by first | exact (((sd.bump _).setL c1).setL c2).bump _ | exact ((((sd.bump _).bump _).setL c1).setL c2).bump _ | exact ((((sd.bump _).bump _).setL c1).setL c2) | exact (((((sd.bump _).bump _).setL c1).setL c2).bump _).bump _, hT⟩
  · rw [rev_ge hi] at hT
    subst hT
    simp [k84l0, v6, v7, hi]
    exact ⟨_, _, _, rfl, hd, sd.bump _⟩
set_option maxHeartbeats 8000000 in
theorem rev_sh {kb : Nat} {d : Array Int} {h : Heap} (hg : h.get kb = some (.cells 3 (dl d))) (hk : kb < h.next) (hf : h.Fr) {N : Nat} (hd : d.size = N) (hN : N ≤ 1000000) (cap : Option Nat) {a b : Nat} (hab : a < b) (hb : b ≤ N) {n : Nat} (hn : N + 20 ≤ n) :
    ∃ h', (rc pg n).fn 84 [.slr kb 0 N 1 cap, D.int a, D.int b] h = some (.ret (.tup []), h') ∧ SD kb (Go.Sort.reverseRange d a b) h h' ∧ (Go.Sort.reverseRange d a b).size = N := by
  obtain ⟨m, rfl, e⟩ := fn_body (pg := pg) (f := 84) (args := [.slr kb 0 N 1 cap, D.int a, D.int b]) (h := h) (show 0 < n by omega) rfl rfl
  rw [e]
  have w1 : IntKind.i64.wrap ((b : Int) - 1) = ((b - 1 : Nat) : Int) := by rw [wrap_i64 (by omega) (by omega)]; omega
  have sd := SD.refl hg hk hf
  simp [k84, Env.v_ini, w1, ev_loop]
  refine Res.fin (lp_rule 2 (qRO (Go.Sort.reverseRange d a b) kb N cap h) _ (rev_round _ kb N hN cap h) (b - 1 - a) m _ (by omega) ⟨_, _, d, a, b - 1, rfl, by omega, by simp [Env.v_ini], by simp, by simp, by omega, hd, by first | exact sd | exact sd.bump _ | exact (sd.bump _).bump _, rfl⟩) ?_
  rintro x s ⟨rfl, M, y, h', rfl, hd', sd'⟩
  simp
  exact ⟨sd', hd'⟩
end Go.Proofs.YtmncdmpeeibgmaaGreatDoor
/- The library's sort: sifting down, the heap sort. -/
namespace Go.Proofs.YtmncdmpeeibgmaaGreatDoor
open Go Go.Em
set_option maxRecDepth 100000
set_option linter.unusedSectionVars false
variable [Tl]
theorem wn {z : Int} {m : Nat} (h : z = m) (hm : m ≤ 1000000000) : IntKind.i64.wrap z = (m : Int) := by rw [h, wrap_i64 (by omega) (by omega)]
theorem sift_ge {hi first root : Nat} {d : Array Int} (h : hi ≤ 2 * root + 1) : Go.Sort.siftDown lt hi first root d = d := by
  rw [Go.Sort.siftDown, dif_pos h]
theorem sift_eq {hi first root c p q : Nat} {d : Array Int} (hc : c = 2 * root + 1) (h : c < hi) (hp : p = first + root) (hq : q = first + c) : Go.Sort.siftDown lt hi first root d = if (decide (c + 1 < hi) && lt d[q]! d[q + 1]!) = true then (if (!lt d[p]! d[q + 1]!) = true then d else Go.Sort.siftDown lt hi first (c + 1) (Go.Sort.swp d p (q + 1))) else if (!lt d[p]! d[q]!) = true then d else Go.Sort.siftDown lt hi first c (Go.Sort.swp d p q) := by
  subst hc hp hq
  rw [Go.Sort.siftDown, dif_neg (by omega)]
  by_cases h2 : 2 * root + 1 + 1 < hi
  · have h3 : 2 * root + 2 < hi := h2
    simp only [h2, dite_true]
    rfl
  · simp only [h2]
    rfl
theorem get_fact {d : Array Int} {i : Nat} (hi : i < d.size) {C : List D} (hC : C = dl d) : ∃ v : Int, C[i]?.getD D.junk = .int v ∧ (∀ h' : i < C.length, C[i]'h' = .int v) ∧ d[i]! = v := by
  subst hC; exact ⟨d[i]!, qdl_get hi, dl_at hi, rfl⟩
def qSO (T : Array Int) (hi first kb N : Nat) (cap : Option Nat) (h0 : Heap) (k : Nat) (s : St) : Prop := ∃ (x : Env 76) (h : Heap) (d : Array Int) (root : Nat), s = ⟨x.l, h, []⟩ ∧ hi ≤ root + k ∧ x.v 0 = .slr kb 0 N 1 cap ∧ x.v 2 = D.int hi ∧ x.v 3 = D.int first ∧ x.v 8 = D.int root ∧ root ≤ N ∧ d.size = N ∧ SD kb d h0 h ∧ Go.Sort.siftDown lt hi first root d = T
set_option maxHeartbeats 16000000 in
theorem sift_round (T : Array Int) (hi first kb N : Nat) (hN : N ≤ 1000000) (hb : first + hi ≤ N) (cap : Option Nat) (h0 : Heap) : ∀ n, 2 ≤ n → ∀ k s, qSO T hi first kb N cap h0 k s → Res (k114l0.ev ⟨pg, 76, none⟩ (rc pg n) s) (Rnd (qSO T hi first kb N cap h0) (fun x s => (x = .exit 0 ∨ x = .ret) ∧ qSQ T kb N h0 s) k) := by
  rintro n hn k s ⟨x, h, d, root, rfl, hk, v0, v2, v3, v8, hr, hd, sd, hT⟩
  have g := sd.g
  obtain ⟨r2, hr2⟩ : ∃ r2, r2 = 2 * root := ⟨_, rfl⟩
  obtain ⟨c, hc⟩ : ∃ c, c = 2 * root + 1 := ⟨_, rfl⟩
  have w1 : IntKind.i64.wrap (2 * (root : Int)) = (r2 : Int) := wn (by omega) (by omega)
  have w2 : IntKind.i64.wrap ((r2 : Int) + 1) = (c : Int) := wn (by omega) (by omega)
  by_cases hch : c < hi
  · obtain ⟨p, hp⟩ : ∃ p, p = first + root := ⟨_, rfl⟩
    obtain ⟨q, hq⟩ : ∃ q, q = first + c := ⟨_, rfl⟩
    rw [sift_eq hc hch hp hq] at hT
    have hpN : p < d.size := by omega
    have hqN : q < d.size := by omega
    have nge : ¬ hi ≤ c := by omega
    have s117 : pg.sh 86 = false := rfl
    have w3 : IntKind.i64.wrap ((c : Int) + 1) = ((c + 1 : Nat) : Int) := wn (by omega) (by omega)
    have w4 : IntKind.i64.wrap ((first : Int) + (c : Int)) = (q : Int) := wn (by omega) (by omega)
    have w5 : IntKind.i64.wrap ((q : Int) + 1) = ((q + 1 : Nat) : Int) := wn (by omega) (by omega)
    have w6 : IntKind.i64.wrap ((first : Int) + (root : Int)) = (p : Int) := wn (by omega) (by omega)
    have w7 : IntKind.i64.wrap ((first : Int) + ((c + 1 : Nat) : Int)) = ((q + 1 : Nat) : Int) := wn (by omega) (by omega)
    have l1 : p < N := by omega
    have l2 : q < N := by omega
    have l3 : p + 1 ≤ N := by omega
    have l4 : q + 1 ≤ N := by omega
    by_cases h2 : c + 1 < hi
    · have hq1 : q + 1 < d.size := by omega
      have l5 : q + 1 < N := by omega
      have l6 : q + 1 + 1 ≤ N := by omega
      obtain ⟨q1, hqq⟩ : ∃ q1, q1 = q + 1 := ⟨_, rfl⟩
      obtain ⟨c1, hcc⟩ : ∃ c1, c1 = c + 1 := ⟨_, rfl⟩
      rw [← hqq] at w5 w7 l5 l6 l4 hT hq1
      rw [← hcc] at w3 w7 h2 hT
      have l7 : q1 + 1 ≤ N := by omega
      have l8 : q + 1 ≤ N := by omega
      have ra := lss_run d[q]! d[q1]! (n := n) hn
      cases hlq : Go.Sort.ltInt d[q]! d[q1]! with
      | true =>
        rw [hlq] at ra
        rw [if_pos (by simp [h2, lt, hlq])] at hT
        obtain ⟨C, C1, C2, vp, vq1, hC, hl, hl1, hl2, f1, f2, e1, e2, p1, p2, c1', c2, y1, y2⟩ := swp_facts hpN hq1
        obtain ⟨vq, f3, e3, y3⟩ := get_fact hqN hC
        rw [← hC] at g
        rw [y1, y2] at hT
        rw [y2, y3] at ra
        have r := lss_run vp vq1 (n := n) hn
        cases hlt : Go.Sort.ltInt vp vq1 with
        | true =>
          rw [hlt] at r
          rw [if_neg (by simp [lt, hlt])] at hT
          simp [k114l0, v0, v2, v3, v8, w1, w2, w3, w4, w5, w6, w7, nge, h2, D.cells, D.one, g, hl, hl1, hd, e1, e2, e3, p1, p2, l1, l2, l3, l5, l6, l8, dcore_f, s117, r, ra]
          exact ⟨k - 1, by omega, _, _, _, c1, rfl, by omega, by simp [v0], by simp [v2], by simp [v3], by simp, by omega, by rw [sz_swp, hd], by repeat' first | exact sd | refine SD.bump ?_ _ | refine SD.two ?_ c1' c2, hT⟩
        | false =>
          rw [hlt] at r
          rw [if_pos (by simp [lt, hlt])] at hT
          subst hT
          simp [k114l0, v0, v2, v3, v8, w1, w2, w3, w4, w5, w6, w7, nge, h2, g, hl, hd, e1, e2, e3, l1, l2, l3, l5, l6, l8, dcore_f, s117, r, ra]
          exact ⟨_, _, _, rfl, hd, by repeat' first | exact sd | refine SD.bump ?_ _⟩
      | false =>
        rw [hlq] at ra
        rw [if_neg (by simp [lt, hlq])] at hT
        obtain ⟨C, C1, C2, vp, vq, hC, hl, hl1, hl2, f1, f2, e1, e2, p1, p2, c1', c2, y1, y2⟩ := swp_facts hpN hqN
        obtain ⟨vq1, f3, e3, y3⟩ := get_fact hq1 hC
        rw [← hC] at g
        rw [y1, y2] at hT
        rw [y2, y3] at ra
        have r := lss_run vp vq (n := n) hn
        cases hlt : Go.Sort.ltInt vp vq with
        | true =>
          rw [hlt] at r
          rw [if_neg (by simp [lt, hlt])] at hT
          simp [k114l0, v0, v2, v3, v8, w1, w2, w3, w4, w5, w6, nge, h2, D.cells, D.one, g, hl, hl1, hd, e1, e2, e3, p1, p2, l1, l2, l3, l5, l6, l8, dcore_f, s117, r, ra]
          exact ⟨k - 1, by omega, _, _, _, c, rfl, by omega, by simp [v0], by simp [v2], by simp [v3], by simp, by omega, by rw [sz_swp, hd], by repeat' first | exact sd | refine SD.bump ?_ _ | refine SD.two ?_ c1' c2, hT⟩
        | false =>
          rw [hlt] at r
          rw [if_pos (by simp [lt, hlt])] at hT
          subst hT
          simp [k114l0, v0, v2, v3, v8, w1, w2, w3, w4, w5, w6, nge, h2, g, hl, hd, e1, e2, e3, l1, l2, l3, l5, l6, l8, dcore_f, s117, r, ra]
          exact ⟨_, _, _, rfl, hd, by repeat' first | exact sd | refine SD.bump ?_ _⟩
    · have h2' : ¬ (c + 1 < hi) := h2
      rw [if_neg (by simp [h2])] at hT
      obtain ⟨c1, hcc⟩ : ∃ c1, c1 = c + 1 := ⟨_, rfl⟩
      rw [← hcc] at w3 h2'
      obtain ⟨C, C1, C2, vp, vq, hC, hl, hl1, hl2, f1, f2, e1, e2, p1, p2, c1', c2, y1, y2⟩ := swp_facts hpN hqN
      rw [← hC] at g
      rw [y1, y2] at hT
      have r := lss_run vp vq (n := n) hn
      cases hlt : Go.Sort.ltInt vp vq with
      | true =>
        rw [hlt] at r
        rw [if_neg (by simp [lt, hlt])] at hT
        simp [k114l0, v0, v2, v3, v8, w1, w2, w3, w4, w6, nge, h2', D.cells, D.one, g, hl, hl1, hd, e1, e2, p1, p2, l1, l2, l3, l4, dcore_f, s117, r]
        exact ⟨k - 1, by omega, _, _, _, c, rfl, by omega, by simp [v0], by simp [v2], by simp [v3], by simp, by omega, by rw [sz_swp, hd], by repeat' first | exact sd | refine SD.bump ?_ _ | refine SD.two ?_ c1' c2, hT⟩
      | false =>
        rw [hlt] at r
        rw [if_pos (by simp [lt, hlt])] at hT
        subst hT
        simp [k114l0, v0, v2, v3, v8, w1, w2, w3, w4, w6, nge, h2', g, hl, hd, e1, e2, l1, l2, l3, l4, dcore_f, s117, r]
        exact ⟨_, _, _, rfl, hd, by repeat' first | exact sd | refine SD.bump ?_ _⟩
  · rw [sift_ge (by omega)] at hT
    subst hT
    have nge : hi ≤ c := by omega
    simp [k114l0, v2, v8, w1, w2, nge]
    exact ⟨_, _, _, rfl, hd, by repeat' first | exact sd | refine SD.bump ?_ _⟩
theorem swp_size (d : Array Int) (i j : Nat) {N : Nat} (hd : d.size = N) : (Go.Sort.swp d i j).size = N := by rw [sz_swp, hd]
theorem Res.fin2 {o : Option (Ex × St)} {id : Nat} {R : Rc} {rs : List (ResultVar × Bool × Nat)} {P : Ex → St → Prop} {r : Out} {C : Heap → Prop} (h : Res o P)
    (hk : ∀ x s, P x s → ∃ h', endH R rs (blockK id (some (x, s))) = some (r, h') ∧ C h') : ∃ h', endH R rs (blockK id o) = some (r, h') ∧ C h' := by
  obtain ⟨x, s, rfl, p⟩ := h; exact hk x s p
set_option maxHeartbeats 8000000 in
theorem sift_sh {kb : Nat} {d : Array Int} {h : Heap} (hg : h.get kb = some (.cells 3 (dl d))) (hk : kb < h.next) (hf : h.Fr) {N : Nat} (hd : d.size = N) (hN : N ≤ 1000000) (cap : Option Nat) {lo hi first : Nat} (hlo : lo ≤ N) (hb : first + hi ≤ N) {n : Nat} (hn : N + 20 ≤ n) :
    ∃ h', (rc pg n).fn 114 [.slr kb 0 N 1 cap, D.int lo, D.int hi, D.int first] h = some (.ret (.tup []), h') ∧ SD kb (Go.Sort.siftDown lt hi first lo d) h h' ∧ (Go.Sort.siftDown lt hi first lo d).size = N := by
  obtain ⟨m, rfl, e⟩ := fn_body (pg := pg) (f := 114) (args := [.slr kb 0 N 1 cap, D.int lo, D.int hi, D.int first]) (h := h) (show 0 < n by omega) rfl rfl
  rw [e]
  have sd := SD.refl hg hk hf
  simp [k114, Env.v_ini, ev_loop]
  refine Res.fin2 (lp_rule 2 (qSO (Go.Sort.siftDown lt hi first lo d) hi first kb N cap h) _ (sift_round _ hi first kb N hN hb cap h) (hi - lo) m _ (by omega) ⟨_, _, d, lo, rfl, by omega, by simp [Env.v_ini], by simp [Env.v_ini], by simp [Env.v_ini], by simp, hlo, hd, by repeat' first | exact sd | refine SD.bump ?_ _, rfl⟩) ?_
  rintro x s ⟨rfl | rfl, M, y, h', rfl, hd', sd'⟩
  all_goals
    simp
    exact ⟨sd', hd'⟩
end Go.Proofs.YtmncdmpeeibgmaaGreatDoor
/- The library's sort: the heap sort. -/
namespace Go.Proofs.YtmncdmpeeibgmaaGreatDoor
open Go Go.Em
set_option maxRecDepth 100000
set_option linter.unusedSectionVars false
variable [Tl]
theorem Res.fin3 {o : Option (Ex × St)} {id : Nat} {R : Rc} {rs : List (ResultVar × Bool × Nat)} {P : Ex → St → Prop} {r : Out} {C : Heap → Prop} {k : St → Option (Ex × St)} (h : Res o P)
    (hk : ∀ x s, P x s → ∃ h', endH R rs (andThen (blockK id (some (x, s))) k) = some (r, h') ∧ C h') : ∃ h', endH R rs (andThen (blockK id o) k) = some (r, h') ∧ C h' := by
  obtain ⟨x, s, rfl, p⟩ := h; exact hk x s p
theorem hb_succ (hi first k : Nat) (d : Array Int) : Go.Sort.heapBuild lt hi first (k + 1) d = Go.Sort.heapBuild lt hi first k (Go.Sort.siftDown lt hi first k d) := rfl
theorem hp_succ (first k : Nat) (d : Array Int) : Go.Sort.heapPop lt first (k + 1) d = Go.Sort.heapPop lt first k (Go.Sort.siftDown lt k first 0 (Go.Sort.swp d first (first + k))) := rfl
def qHO (T : Array Int) (hi first kb N : Nat) (cap : Option Nat) (h0 : Heap) (k : Nat) (s : St) : Prop := ∃ (x : Env 56) (h : Heap) (d : Array Int), s = ⟨x.l, h, []⟩ ∧ x.v 0 = .slr kb 0 N 1 cap ∧ x.v 6 = D.int first ∧ x.v 7 = D.int 0 ∧ x.v 8 = D.int hi ∧ x.v 9 = D.int ((k : Int) - 1) ∧ k ≤ hi + 1 ∧ d.size = N ∧ SD kb d h0 h ∧ Go.Sort.heapBuild lt hi first k d = T
def qHQ (T : Array Int) (hi first kb N : Nat) (cap : Option Nat) (h0 : Heap) (s : St) : Prop := ∃ (x : Env 56) (h : Heap), s = ⟨x.l, h, []⟩ ∧ x.v 0 = .slr kb 0 N 1 cap ∧ x.v 6 = D.int first ∧ x.v 7 = D.int 0 ∧ x.v 8 = D.int hi ∧ T.size = N ∧ SD kb T h0 h
set_option maxHeartbeats 8000000 in
theorem hb_round (T : Array Int) (hi first kb N : Nat) (hN : N ≤ 1000000) (hb : first + hi ≤ N) (h1 : 0 < hi) (cap : Option Nat) (h0 : Heap) : ∀ n, N + 20 ≤ n → ∀ k s, qHO T hi first kb N cap h0 k s → Res (k81l0.ev ⟨pg, 56, none⟩ (rc pg n) s) (Rnd (qHO T hi first kb N cap h0) (fun x s => x = .exit 0 ∧ qHQ T hi first kb N cap h0 s) k) := by
  rintro n hn k s ⟨x, h, d, rfl, v0, v6, v7, v8, v9, hk, hd, sd, hT⟩
  cases k with
  | zero =>
    have q1 : ¬ ((0 : Int) ≤ ((0 : Nat) : Int) - 1) := by omega
    simp [k81l0, v9]
    exact ⟨_, _, rfl, by simp [v0], by simp [v6], by simp [v7], by simp [v8], by rw [← hT]; exact hd, by rw [← hT]; exact sd.bump _⟩
  | succ j =>
    rw [hb_succ] at hT
    have e9 : ((j + 1 : Nat) : Int) - 1 = (j : Int) := by omega
    rw [e9] at v9
    have q1 : (0 : Int) ≤ (j : Int) := by omega
    have w1 : IntKind.i64.wrap ((j : Int) - 1) = (j : Int) - 1 := wrap_i64 (by omega) (by omega)
    obtain ⟨H, hH⟩ : ∃ H, H = (h.bump 56).bump 56 := ⟨_, rfl⟩
    have sdH : SD kb d h0 H := hH ▸ (sd.bump 56).bump 56
    obtain ⟨h', c, sd', hd'⟩ := sift_sh (lo := j) (hi := hi) (first := first) sdH.g (by have := sdH.n; have := sdH.k; omega) sdH.fr hd hN cap (by omega) hb (n := n) (by omega)
    have cs := call_sh (pg := pg) (f := 114) rfl c
    simp [k81l0, v0, v6, v8, v9, q1, w1, ← hH, cs]
    have sd2 := sdH.trans sd'
    exact ⟨_, _, _, rfl, by simp [v0], by simp [v6], by simp [v7], by simp [v8], by simp, by omega, hd', by repeat' first | exact sd2 | refine SD.bump ?_ _, hT⟩
def qPO (T : Array Int) (first kb N : Nat) (cap : Option Nat) (h0 : Heap) (k : Nat) (s : St) : Prop := ∃ (x : Env 56) (h : Heap) (d : Array Int), s = ⟨x.l, h, []⟩ ∧ x.v 0 = .slr kb 0 N 1 cap ∧ x.v 6 = D.int first ∧ x.v 7 = D.int ((0 : Nat) : Int) ∧ x.v 10 = D.int ((k : Int) - 1) ∧ first + k ≤ N ∧ d.size = N ∧ SD kb d h0 h ∧ Go.Sort.heapPop lt first k d = T
set_option maxHeartbeats 8000000 in
theorem hp_round (T : Array Int) (first kb N : Nat) (hN : N ≤ 1000000) (cap : Option Nat) (h0 : Heap) : ∀ n, N + 20 ≤ n → ∀ k s, qPO T first kb N cap h0 k s → Res (k81l1.ev ⟨pg, 56, none⟩ (rc pg n) s) (Rnd (qPO T first kb N cap h0) (fun x s => x = .exit 2 ∧ qSQ T kb N h0 s) k) := by
  rintro n hn k s ⟨x, h, d, rfl, v0, v6, v7, v10, hk, hd, sd, hT⟩
  cases k with
  | zero =>
    simp [k81l1, v10]
    exact ⟨_, _, _, rfl, by rw [← hT]; exact hd, by rw [← hT]; exact sd.bump _⟩
  | succ j =>
    rw [hp_succ] at hT
    have g := sd.g
    have e9 : ((j + 1 : Nat) : Int) - 1 = (j : Int) := by omega
    rw [e9] at v10
    have q1 : (0 : Int) ≤ (j : Int) := by omega
    have w1 : IntKind.i64.wrap ((j : Int) - 1) = (j : Int) - 1 := wrap_i64 (by omega) (by omega)
    obtain ⟨p, hp⟩ : ∃ p, p = first + j := ⟨_, rfl⟩
    rw [← hp] at hT
    have w2 : IntKind.i64.wrap ((first : Int) + (j : Int)) = (p : Int) := wn (by omega) (by omega)
    have hpN : p < d.size := by omega
    have hfN : first < d.size := by omega
    have l1 : p < N := by omega
    have l2 : first < N := by omega
    have l3 : p + 1 ≤ N := by omega
    have l4 : first + 1 ≤ N := by omega
    obtain ⟨C, C1, C2, vp, vq, hC, hl, hl1, hl2, f1, f2, e1, e2, p1, p2, c1, c2, y1, y2⟩ := swp_facts hfN hpN
    rw [← hC] at g
    obtain ⟨H, hH⟩ : ∃ H, H = ((((h.bump 56).bump 56).set kb (some (.cells 3 C1))).set kb (some (.cells 3 C2))).bump 56 := ⟨_, rfl⟩
    have sdH : SD kb (Go.Sort.swp d first p) h0 H := hH ▸ SD.bump (SD.two ((sd.bump 56).bump 56) c1 c2) 56
    obtain ⟨h', c, sd', hd'⟩ := sift_sh (lo := 0) (hi := j) (first := first) sdH.g (by have := sdH.n; have := sdH.k; omega) sdH.fr (swp_size d first p hd) hN cap (by omega) (by omega) (n := n) (by omega)
    have cs := call_sh (pg := pg) (f := 114) rfl c
    have z0 : D.int ((0 : Nat) : Int) = D.int 0 := rfl
    rw [z0] at cs v7
    simp [k81l1, v0, v6, v7, v10, q1, w1, w2, D.cells, D.one, g, hl, hl1, hd, e1, e2, p1, p2, l1, l2, l3, l4, ← hH, cs]
    have sd2 := sdH.trans sd'
    exact ⟨_, _, _, rfl, by simp [v0], by simp [v6], by simp [v7], by simp, by omega, hd', by repeat' first | exact sd2 | refine SD.bump ?_ _, hT⟩
set_option maxHeartbeats 8000000 in
theorem heap_sh {kb : Nat} {d : Array Int} {h : Heap} (hg : h.get kb = some (.cells 3 (dl d))) (hk : kb < h.next) (hf : h.Fr) {N : Nat} (hd : d.size = N) (hN : N ≤ 1000000) (cap : Option Nat) {a b : Nat} (hab : a < b) (hb : b ≤ N) {n : Nat} (hn : 2 * N + 40 ≤ n) :
    ∃ h', (rc pg n).fn 81 [.slr kb 0 N 1 cap, D.int a, D.int b] h = some (.ret (.tup []), h') ∧ SD kb (Go.Sort.heapSort lt d a b) h h' ∧ (Go.Sort.heapSort lt d a b).size = N := by
  obtain ⟨m, rfl, e⟩ := fn_body (pg := pg) (f := 81) (args := [.slr kb 0 N 1 cap, D.int a, D.int b]) (h := h) (show 0 < n by omega) rfl rfl
  rw [e]
  have sd := SD.refl hg hk hf
  obtain ⟨hi, hhi⟩ : ∃ hi, hi = b - a := ⟨_, rfl⟩
  obtain ⟨i1, hi1⟩ : ∃ i, i = (b - a - 1) / 2 := ⟨_, rfl⟩
  have w1 : IntKind.i64.wrap ((b : Int) - (a : Int)) = (hi : Int) := wn (by omega) (by omega)
  have w2 : IntKind.i64.wrap ((hi : Int) - 1) = ((hi - 1 : Nat) : Int) := wn (by omega) (by omega)
  have w3 : IntKind.i64.wrap (((hi - 1 : Nat) : Int).tdiv 2) = (i1 : Int) := wn (by rw [hi1, Int.tdiv_eq_ediv_of_nonneg (by omega)]; omega) (by omega)
  have ew : Go.Sort.heapSort lt d a b = Go.Sort.heapPop lt a hi (Go.Sort.heapBuild lt hi a (i1 + 1) d) := by rw [hhi, hi1]; rfl
  rw [ew]
  obtain ⟨T, hT⟩ : ∃ T, T = Go.Sort.heapBuild lt hi a (i1 + 1) d := ⟨_, rfl⟩
  rw [← hT]
  have w4 : bin .quo (.int .i64 ((hi - 1 : Nat) : Int)) (.int .i64 2) = some (.int .i64 (i1 : Int)) := by rw [bin_quo (by omega), w3]
  simp [k81, Env.v_ini, w1, w2, w4, ev_loop]
  refine Res.fin3 (lp_rule (N + 20) (qHO T hi a kb N cap h) _ (hb_round T hi a kb N hN (by omega) (by omega) cap h) (i1 + 1) m _ (by omega) ⟨_, _, d, rfl, by simp [Env.v_ini], by simp, by simp, by simp, by simp, by omega, hd, by repeat' first | exact sd | refine SD.bump ?_ _, hT.symm⟩) ?_
  rintro x s ⟨rfl, y, h', rfl, y0, y6, y7, y8, hd', sd'⟩
  have z0 : D.int ((0 : Nat) : Int) = D.int 0 := rfl
  simp [y8, w2, ev_loop]
  refine Res.fin2 (lp_rule (N + 20) (qPO (Go.Sort.heapPop lt a hi T) a kb N cap h) _ (hp_round _ a kb N hN cap h) hi m _ (by omega) ⟨_, _, T, rfl, by simp [y0], by simp [y6], by simp [y7], by simp; omega, by omega, hd', by repeat' first | exact sd' | refine SD.bump ?_ _, rfl⟩) ?_
  rintro x s ⟨rfl, M, y, h', rfl, hd', sd'⟩
  simp
  exact ⟨sd', hd'⟩
end Go.Proofs.YtmncdmpeeibgmaaGreatDoor
/- The library's sort: the scans of the partitions. -/
namespace Go.Proofs.YtmncdmpeeibgmaaGreatDoor
open Go Go.Em
set_option maxRecDepth 100000
set_option linter.unusedSectionVars false
variable [Tl]
theorem scanUp_go {p : Int → Bool} {d : Array Int} {j i : Nat} (h : i ≤ j) (hp : p d[i]! = true) : Go.Sort.scanUp p d j i = Go.Sort.scanUp p d j (i + 1) := by
  rw [Go.Sort.scanUp, if_pos (by simp [h, hp])]
theorem scanUp_no {p : Int → Bool} {d : Array Int} {j i : Nat} (h : i ≤ j → p d[i]! = false) : Go.Sort.scanUp p d j i = i := by
  rw [Go.Sort.scanUp, if_neg (by simp; intro a; simpa using h a)]
theorem scanDown_go {p : Int → Bool} {d : Array Int} {j i : Nat} (h1 : 1 ≤ j) (h : i ≤ j) (hp : p d[j]! = true) : Go.Sort.scanDown p d i j = Go.Sort.scanDown p d i (j - 1) := by
  obtain ⟨m, rfl⟩ : ∃ m, j = m + 1 := ⟨j - 1, by omega⟩
  rw [Go.Sort.scanDown, if_pos (by simp [h, hp])]
  rfl
theorem scanDown_no {p : Int → Bool} {d : Array Int} {j i : Nat} (h : i ≤ j → p d[j]! = false) : Go.Sort.scanDown p d i j = j := by
  cases j with
  | zero => rfl
  | succ m => rw [Go.Sort.scanDown, if_neg (by simp; intro a; simpa using h a)]
def puI (T : Nat) (d : Array Int) (a j kb N : Nat) (x0 : Env 168) (h0 : Heap) (k : Nat) (s : St) : Prop := ∃ (x : Env 168) (h : Heap) (t : Nat), s = ⟨x.l, h, []⟩ ∧ t + k = j + 1 ∧ (∀ q, q < 12 → q ≠ 10 → x.v q = x0.v q) ∧ x.v 10 = D.int t ∧ t ≤ N ∧ SD kb d h0 h ∧ Go.Sort.scanUp (fun x => lt x d[a]!) d j t = T
def puQ (T : Nat) (d : Array Int) (kb : Nat) (x0 : Env 168) (h0 : Heap) (x : Ex) (s : St) : Prop := x = .exit 0 ∧ ∃ (x : Env 168) (h : Heap), s = ⟨x.l, h, []⟩ ∧ (∀ q, q < 12 → q ≠ 10 → x.v q = x0.v q) ∧ x.v 10 = D.int T ∧ SD kb d h0 h
set_option maxHeartbeats 8000000 in
theorem pu_round (T : Nat) (d : Array Int) (a j kb N : Nat) (hN : N ≤ 1000000) (haN : a < d.size) (hd : d.size = N) (hj : j < N) (cap : Option Nat) (x0 : Env 168) (h0 : Heap) (z0 : x0.v 0 = .slr kb 0 N 1 cap) (z1 : x0.v 1 = D.int a) (z2 : x0.v 11 = D.int j) : ∀ n, 2 ≤ n → ∀ k s, puI T d a j kb N x0 h0 k s → Res (k88l0.ev ⟨pg, 168, none⟩ (rc pg n) s) (Rnd (puI T d a j kb N x0 h0) (puQ T d kb x0 h0) k) := by
  rintro n hn k s ⟨x, h, t, rfl, hk, sm, vt, htN, sd, hT⟩
  have g := sd.g
  have v0 := (sm 0 (by omega) (by omega)).trans z0
  have v1 := (sm 1 (by omega) (by omega)).trans z1
  have vo := (sm 11 (by omega) (by omega)).trans z2
  have s117 : pg.sh 86 = false := rfl
  have ne : ∀ {q : Nat}, q < 12 → ∀ t, 12 ≤ t → (t = q) = False := fun hq t ht => by simp; omega
  by_cases hc : t ≤ j
  · have htS : t < d.size := by omega
    have ht1 : t < N := by omega
    have ht2 : t + 1 ≤ N := by omega
    have ha1 : a < N := by omega
    have ha2 : a + 1 ≤ N := by omega
    have w1 : IntKind.i64.wrap ((t : Int) + 1) = ((t : Int) + 1) := wrap_i64 (by omega) (by omega)
    obtain ⟨C, hC⟩ : ∃ C, C = dl d := ⟨_, rfl⟩
    have hl := dl_le hC
    obtain ⟨vt', f1, e1, y1⟩ := get_fact htS hC
    obtain ⟨va, f2, e2, y2⟩ := get_fact haN hC
    rw [← hC] at g
    have r := lss_run vt' va (n := n) hn
    cases hlt : Go.Sort.ltInt vt' va with
    | true =>
      rw [hlt] at r
      rw [scanUp_go hc (by simp [lt, y1, y2, hlt])] at hT
      simp [k88l0, v0, v1, vo, vt, hc, w1, g, hl, hd, e1, e2, ht1, ht2, ha1, ha2, dcore_f, s117, r]
      exact ⟨k - 1, by omega, _, _, t + 1, rfl, by omega, fun q hq hq' => by simp [ne hq, Ne.symm hq', sm q hq hq'], by simp, by omega, by repeat' first | exact sd | refine SD.bump ?_ _, hT⟩
    | false =>
      rw [hlt] at r
      rw [scanUp_no (fun _ => by simp [lt, y1, y2, hlt])] at hT
      subst hT
      simp [k88l0, v0, v1, vo, vt, hc, g, hl, hd, e1, e2, ht1, ht2, ha1, ha2, dcore_f, s117, r]
      exact ⟨rfl, _, _, rfl, fun q hq hq' => by simp [ne hq, sm q hq hq'], by simp [vt], by repeat' first | exact sd | refine SD.bump ?_ _⟩
  · rw [scanUp_no (fun h => absurd h hc)] at hT
    subst hT
    simp [k88l0, vo, vt, hc, dcore_f, s117]
    exact ⟨rfl, _, _, rfl, fun q hq hq' => by simp [ne hq, sm q hq hq'], by simp [vt], by repeat' first | exact sd | refine SD.bump ?_ _⟩
def pdI (T : Nat) (d : Array Int) (a i kb N : Nat) (x0 : Env 168) (h0 : Heap) (k : Nat) (s : St) : Prop := ∃ (x : Env 168) (h : Heap) (t : Nat), s = ⟨x.l, h, []⟩ ∧ t + 1 = i + k ∧ (∀ q, q < 12 → q ≠ 11 → x.v q = x0.v q) ∧ x.v 11 = D.int t ∧ t < N ∧ SD kb d h0 h ∧ Go.Sort.scanDown (fun x => !lt x d[a]!) d i t = T
def pdQ (T : Nat) (d : Array Int) (kb : Nat) (x0 : Env 168) (h0 : Heap) (x : Ex) (s : St) : Prop := x = .exit 2 ∧ ∃ (x : Env 168) (h : Heap), s = ⟨x.l, h, []⟩ ∧ (∀ q, q < 12 → q ≠ 11 → x.v q = x0.v q) ∧ x.v 11 = D.int T ∧ SD kb d h0 h
set_option maxHeartbeats 8000000 in
theorem pd_round (T : Nat) (d : Array Int) (a i kb N : Nat) (hN : N ≤ 1000000) (haN : a < d.size) (hd : d.size = N) (hi1 : 1 ≤ i) (cap : Option Nat) (x0 : Env 168) (h0 : Heap) (z0 : x0.v 0 = .slr kb 0 N 1 cap) (z1 : x0.v 1 = D.int a) (z2 : x0.v 10 = D.int i) : ∀ n, 2 ≤ n → ∀ k s, pdI T d a i kb N x0 h0 k s → Res (k88l1.ev ⟨pg, 168, none⟩ (rc pg n) s) (Rnd (pdI T d a i kb N x0 h0) (pdQ T d kb x0 h0) k) := by
  rintro n hn k s ⟨x, h, t, rfl, hk, sm, vt, htN, sd, hT⟩
  have g := sd.g
  have v0 := (sm 0 (by omega) (by omega)).trans z0
  have v1 := (sm 1 (by omega) (by omega)).trans z1
  have vo := (sm 10 (by omega) (by omega)).trans z2
  have s117 : pg.sh 86 = false := rfl
  have ne : ∀ {q : Nat}, q < 12 → ∀ t, 12 ≤ t → (t = q) = False := fun hq t ht => by simp; omega
  by_cases hc : i ≤ t
  · have htS : t < d.size := by omega
    have ht1 : t < N := by omega
    have ht2 : t + 1 ≤ N := by omega
    have ha1 : a < N := by omega
    have ha2 : a + 1 ≤ N := by omega
    have w1 : IntKind.i64.wrap ((t : Int) - 1) = (((t - 1 : Nat) : Int)) := wn (by omega) (by omega)
    obtain ⟨C, hC⟩ : ∃ C, C = dl d := ⟨_, rfl⟩
    have hl := dl_le hC
    obtain ⟨vt', f1, e1, y1⟩ := get_fact htS hC
    obtain ⟨va, f2, e2, y2⟩ := get_fact haN hC
    rw [← hC] at g
    have r := lss_run vt' va (n := n) hn
    cases hlt : Go.Sort.ltInt vt' va with
    | true =>
      rw [hlt] at r
      rw [scanDown_no (fun _ => by simp [lt, y1, y2, hlt])] at hT
      subst hT
      simp [k88l1, v0, v1, vo, vt, hc, g, hl, hd, e1, e2, ht1, ht2, ha1, ha2, dcore_f, s117, r]
      exact ⟨rfl, _, _, rfl, fun q hq hq' => by simp [ne hq, sm q hq hq'], by simp [vt], by repeat' first | exact sd | refine SD.bump ?_ _⟩
    | false =>
      rw [hlt] at r
      rw [scanDown_go (show 1 ≤ t by omega) hc (by simp [lt, y1, y2, hlt])] at hT
      simp [k88l1, v0, v1, vo, vt, hc, w1, g, hl, hd, e1, e2, ht1, ht2, ha1, ha2, dcore_f, s117, r]
      exact ⟨k - 1, by omega, _, _, t - 1, rfl, by omega, fun q hq hq' => by simp [ne hq, Ne.symm hq', sm q hq hq'], by simp, by omega, by repeat' first | exact sd | refine SD.bump ?_ _, hT⟩
  · rw [scanDown_no (fun h => absurd h hc)] at hT
    subst hT
    simp [k88l1, vo, vt, hc, dcore_f, s117]
    exact ⟨rfl, _, _, rfl, fun q hq hq' => by simp [ne hq, sm q hq hq'], by simp [vt], by repeat' first | exact sd | refine SD.bump ?_ _⟩
def pvI (T : Nat) (d : Array Int) (a j kb N : Nat) (x0 : Env 168) (h0 : Heap) (k : Nat) (s : St) : Prop := ∃ (x : Env 168) (h : Heap) (t : Nat), s = ⟨x.l, h, []⟩ ∧ t + k = j + 1 ∧ (∀ q, q < 12 → q ≠ 10 → x.v q = x0.v q) ∧ x.v 10 = D.int t ∧ t ≤ N ∧ SD kb d h0 h ∧ Go.Sort.scanUp (fun x => lt x d[a]!) d j t = T
def pvQ (T : Nat) (d : Array Int) (kb : Nat) (x0 : Env 168) (h0 : Heap) (x : Ex) (s : St) : Prop := x = .exit 6 ∧ ∃ (x : Env 168) (h : Heap), s = ⟨x.l, h, []⟩ ∧ (∀ q, q < 12 → q ≠ 10 → x.v q = x0.v q) ∧ x.v 10 = D.int T ∧ SD kb d h0 h
set_option maxHeartbeats 8000000 in
theorem pv_round (T : Nat) (d : Array Int) (a j kb N : Nat) (hN : N ≤ 1000000) (haN : a < d.size) (hd : d.size = N) (hj : j < N) (cap : Option Nat) (x0 : Env 168) (h0 : Heap) (z0 : x0.v 0 = .slr kb 0 N 1 cap) (z1 : x0.v 1 = D.int a) (z2 : x0.v 11 = D.int j) : ∀ n, 2 ≤ n → ∀ k s, pvI T d a j kb N x0 h0 k s → Res (k88l2.ev ⟨pg, 168, none⟩ (rc pg n) s) (Rnd (pvI T d a j kb N x0 h0) (pvQ T d kb x0 h0) k) := by
  rintro n hn k s ⟨x, h, t, rfl, hk, sm, vt, htN, sd, hT⟩
  have g := sd.g
  have v0 := (sm 0 (by omega) (by omega)).trans z0
  have v1 := (sm 1 (by omega) (by omega)).trans z1
  have vo := (sm 11 (by omega) (by omega)).trans z2
  have s117 : pg.sh 86 = false := rfl
  have ne : ∀ {q : Nat}, q < 12 → ∀ t, 12 ≤ t → (t = q) = False := fun hq t ht => by simp; omega
  by_cases hc : t ≤ j
  · have htS : t < d.size := by omega
    have ht1 : t < N := by omega
    have ht2 : t + 1 ≤ N := by omega
    have ha1 : a < N := by omega
    have ha2 : a + 1 ≤ N := by omega
    have w1 : IntKind.i64.wrap ((t : Int) + 1) = ((t : Int) + 1) := wrap_i64 (by omega) (by omega)
    obtain ⟨C, hC⟩ : ∃ C, C = dl d := ⟨_, rfl⟩
    have hl := dl_le hC
    obtain ⟨vt', f1, e1, y1⟩ := get_fact htS hC
    obtain ⟨va, f2, e2, y2⟩ := get_fact haN hC
    rw [← hC] at g
    have r := lss_run vt' va (n := n) hn
    cases hlt : Go.Sort.ltInt vt' va with
    | true =>
      rw [hlt] at r
      rw [scanUp_go hc (by simp [lt, y1, y2, hlt])] at hT
      simp [k88l2, v0, v1, vo, vt, hc, w1, g, hl, hd, e1, e2, ht1, ht2, ha1, ha2, dcore_f, s117, r]
      exact ⟨k - 1, by omega, _, _, t + 1, rfl, by omega, fun q hq hq' => by simp [ne hq, Ne.symm hq', sm q hq hq'], by simp, by omega, by repeat' first | exact sd | refine SD.bump ?_ _, hT⟩
    | false =>
      rw [hlt] at r
      rw [scanUp_no (fun _ => by simp [lt, y1, y2, hlt])] at hT
      subst hT
      simp [k88l2, v0, v1, vo, vt, hc, g, hl, hd, e1, e2, ht1, ht2, ha1, ha2, dcore_f, s117, r]
      exact ⟨rfl, _, _, rfl, fun q hq hq' => by simp [ne hq, sm q hq hq'], by simp [vt], by repeat' first | exact sd | refine SD.bump ?_ _⟩
  · rw [scanUp_no (fun h => absurd h hc)] at hT
    subst hT
    simp [k88l2, vo, vt, hc, dcore_f, s117]
    exact ⟨rfl, _, _, rfl, fun q hq hq' => by simp [ne hq, sm q hq hq'], by simp [vt], by repeat' first | exact sd | refine SD.bump ?_ _⟩
def pwI (T : Nat) (d : Array Int) (a i kb N : Nat) (x0 : Env 168) (h0 : Heap) (k : Nat) (s : St) : Prop := ∃ (x : Env 168) (h : Heap) (t : Nat), s = ⟨x.l, h, []⟩ ∧ t + 1 = i + k ∧ (∀ q, q < 12 → q ≠ 11 → x.v q = x0.v q) ∧ x.v 11 = D.int t ∧ t < N ∧ SD kb d h0 h ∧ Go.Sort.scanDown (fun x => !lt x d[a]!) d i t = T
def pwQ (T : Nat) (d : Array Int) (kb : Nat) (x0 : Env 168) (h0 : Heap) (x : Ex) (s : St) : Prop := x = .exit 8 ∧ ∃ (x : Env 168) (h : Heap), s = ⟨x.l, h, []⟩ ∧ (∀ q, q < 12 → q ≠ 11 → x.v q = x0.v q) ∧ x.v 11 = D.int T ∧ SD kb d h0 h
set_option maxHeartbeats 8000000 in
theorem pw_round (T : Nat) (d : Array Int) (a i kb N : Nat) (hN : N ≤ 1000000) (haN : a < d.size) (hd : d.size = N) (hi1 : 1 ≤ i) (cap : Option Nat) (x0 : Env 168) (h0 : Heap) (z0 : x0.v 0 = .slr kb 0 N 1 cap) (z1 : x0.v 1 = D.int a) (z2 : x0.v 10 = D.int i) : ∀ n, 2 ≤ n → ∀ k s, pwI T d a i kb N x0 h0 k s → Res (k88l3.ev ⟨pg, 168, none⟩ (rc pg n) s) (Rnd (pwI T d a i kb N x0 h0) (pwQ T d kb x0 h0) k) := by
  rintro n hn k s ⟨x, h, t, rfl, hk, sm, vt, htN, sd, hT⟩
  have g := sd.g
  have v0 := (sm 0 (by omega) (by omega)).trans z0
  have v1 := (sm 1 (by omega) (by omega)).trans z1
  have vo := (sm 10 (by omega) (by omega)).trans z2
  have s117 : pg.sh 86 = false := rfl
  have ne : ∀ {q : Nat}, q < 12 → ∀ t, 12 ≤ t → (t = q) = False := fun hq t ht => by simp; omega
  by_cases hc : i ≤ t
  · have htS : t < d.size := by omega
    have ht1 : t < N := by omega
    have ht2 : t + 1 ≤ N := by omega
    have ha1 : a < N := by omega
    have ha2 : a + 1 ≤ N := by omega
    have w1 : IntKind.i64.wrap ((t : Int) - 1) = (((t - 1 : Nat) : Int)) := wn (by omega) (by omega)
    obtain ⟨C, hC⟩ : ∃ C, C = dl d := ⟨_, rfl⟩
    have hl := dl_le hC
    obtain ⟨vt', f1, e1, y1⟩ := get_fact htS hC
    obtain ⟨va, f2, e2, y2⟩ := get_fact haN hC
    rw [← hC] at g
    have r := lss_run vt' va (n := n) hn
    cases hlt : Go.Sort.ltInt vt' va with
    | true =>
      rw [hlt] at r
      rw [scanDown_no (fun _ => by simp [lt, y1, y2, hlt])] at hT
      subst hT
      simp [k88l3, v0, v1, vo, vt, hc, g, hl, hd, e1, e2, ht1, ht2, ha1, ha2, dcore_f, s117, r]
      exact ⟨rfl, _, _, rfl, fun q hq hq' => by simp [ne hq, sm q hq hq'], by simp [vt], by repeat' first | exact sd | refine SD.bump ?_ _⟩
    | false =>
      rw [hlt] at r
      rw [scanDown_go (show 1 ≤ t by omega) hc (by simp [lt, y1, y2, hlt])] at hT
      simp [k88l3, v0, v1, vo, vt, hc, w1, g, hl, hd, e1, e2, ht1, ht2, ha1, ha2, dcore_f, s117, r]
      exact ⟨k - 1, by omega, _, _, t - 1, rfl, by omega, fun q hq hq' => by simp [ne hq, Ne.symm hq', sm q hq hq'], by simp, by omega, by repeat' first | exact sd | refine SD.bump ?_ _, hT⟩
  · rw [scanDown_no (fun h => absurd h hc)] at hT
    subst hT
    simp [k88l3, vo, vt, hc, dcore_f, s117]
    exact ⟨rfl, _, _, rfl, fun q hq hq' => by simp [ne hq, sm q hq hq'], by simp [vt], by repeat' first | exact sd | refine SD.bump ?_ _⟩
def quI (T : Nat) (d : Array Int) (a j kb N : Nat) (x0 : Env 84) (h0 : Heap) (k : Nat) (s : St) : Prop := ∃ (x : Env 84) (h : Heap) (t : Nat), s = ⟨x.l, h, []⟩ ∧ t + k = j + 1 ∧ (∀ q, q < 11 → q ≠ 9 → x.v q = x0.v q) ∧ x.v 9 = D.int t ∧ t ≤ N ∧ SD kb d h0 h ∧ Go.Sort.scanUp (fun x => !lt d[a]! x) d j t = T
def quQ (T : Nat) (d : Array Int) (kb : Nat) (x0 : Env 84) (h0 : Heap) (x : Ex) (s : St) : Prop := x = .exit 2 ∧ ∃ (x : Env 84) (h : Heap), s = ⟨x.l, h, []⟩ ∧ (∀ q, q < 11 → q ≠ 9 → x.v q = x0.v q) ∧ x.v 9 = D.int T ∧ SD kb d h0 h
set_option maxHeartbeats 8000000 in
theorem qu_round (T : Nat) (d : Array Int) (a j kb N : Nat) (hN : N ≤ 1000000) (haN : a < d.size) (hd : d.size = N) (hj : j < N) (cap : Option Nat) (x0 : Env 84) (h0 : Heap) (z0 : x0.v 0 = .slr kb 0 N 1 cap) (z1 : x0.v 1 = D.int a) (z2 : x0.v 10 = D.int j) : ∀ n, 2 ≤ n → ∀ k s, quI T d a j kb N x0 h0 k s → Res (k87l0.ev ⟨pg, 84, none⟩ (rc pg n) s) (Rnd (quI T d a j kb N x0 h0) (quQ T d kb x0 h0) k) := by
  rintro n hn k s ⟨x, h, t, rfl, hk, sm, vt, htN, sd, hT⟩
  have g := sd.g
  have v0 := (sm 0 (by omega) (by omega)).trans z0
  have v1 := (sm 1 (by omega) (by omega)).trans z1
  have vo := (sm 10 (by omega) (by omega)).trans z2
  have s117 : pg.sh 86 = false := rfl
  have ne : ∀ {q : Nat}, q < 11 → ∀ t, 11 ≤ t → (t = q) = False := fun hq t ht => by simp; omega
  by_cases hc : t ≤ j
  · have htS : t < d.size := by omega
    have ht1 : t < N := by omega
    have ht2 : t + 1 ≤ N := by omega
    have ha1 : a < N := by omega
    have ha2 : a + 1 ≤ N := by omega
    have w1 : IntKind.i64.wrap ((t : Int) + 1) = ((t : Int) + 1) := wrap_i64 (by omega) (by omega)
    obtain ⟨C, hC⟩ : ∃ C, C = dl d := ⟨_, rfl⟩
    have hl := dl_le hC
    obtain ⟨vt', f1, e1, y1⟩ := get_fact htS hC
    obtain ⟨va, f2, e2, y2⟩ := get_fact haN hC
    rw [← hC] at g
    have r := lss_run va vt' (n := n) hn
    cases hlt : Go.Sort.ltInt va vt' with
    | true =>
      rw [hlt] at r
      rw [scanUp_no (fun _ => by simp [lt, y1, y2, hlt])] at hT
      subst hT
      simp [k87l0, v0, v1, vo, vt, hc, g, hl, hd, e1, e2, ht1, ht2, ha1, ha2, dcore_f, s117, r]
      exact ⟨rfl, _, _, rfl, fun q hq hq' => by simp [ne hq, sm q hq hq'], by simp [vt], by repeat' first | exact sd | refine SD.bump ?_ _⟩
    | false =>
      rw [hlt] at r
      rw [scanUp_go hc (by simp [lt, y1, y2, hlt])] at hT
      simp [k87l0, v0, v1, vo, vt, hc, w1, g, hl, hd, e1, e2, ht1, ht2, ha1, ha2, dcore_f, s117, r]
      exact ⟨k - 1, by omega, _, _, t + 1, rfl, by omega, fun q hq hq' => by simp [ne hq, Ne.symm hq', sm q hq hq'], by simp, by omega, by repeat' first | exact sd | refine SD.bump ?_ _, hT⟩
  · rw [scanUp_no (fun h => absurd h hc)] at hT
    subst hT
    simp [k87l0, vo, vt, hc, dcore_f, s117]
    exact ⟨rfl, _, _, rfl, fun q hq hq' => by simp [ne hq, sm q hq hq'], by simp [vt], by repeat' first | exact sd | refine SD.bump ?_ _⟩
def qdI (T : Nat) (d : Array Int) (a i kb N : Nat) (x0 : Env 84) (h0 : Heap) (k : Nat) (s : St) : Prop := ∃ (x : Env 84) (h : Heap) (t : Nat), s = ⟨x.l, h, []⟩ ∧ t + 1 = i + k ∧ (∀ q, q < 11 → q ≠ 10 → x.v q = x0.v q) ∧ x.v 10 = D.int t ∧ t < N ∧ SD kb d h0 h ∧ Go.Sort.scanDown (fun x => lt d[a]! x) d i t = T
def qdQ (T : Nat) (d : Array Int) (kb : Nat) (x0 : Env 84) (h0 : Heap) (x : Ex) (s : St) : Prop := x = .exit 4 ∧ ∃ (x : Env 84) (h : Heap), s = ⟨x.l, h, []⟩ ∧ (∀ q, q < 11 → q ≠ 10 → x.v q = x0.v q) ∧ x.v 10 = D.int T ∧ SD kb d h0 h
set_option maxHeartbeats 8000000 in
theorem qd_round (T : Nat) (d : Array Int) (a i kb N : Nat) (hN : N ≤ 1000000) (haN : a < d.size) (hd : d.size = N) (hi1 : 1 ≤ i) (cap : Option Nat) (x0 : Env 84) (h0 : Heap) (z0 : x0.v 0 = .slr kb 0 N 1 cap) (z1 : x0.v 1 = D.int a) (z2 : x0.v 9 = D.int i) : ∀ n, 2 ≤ n → ∀ k s, qdI T d a i kb N x0 h0 k s → Res (k87l1.ev ⟨pg, 84, none⟩ (rc pg n) s) (Rnd (qdI T d a i kb N x0 h0) (qdQ T d kb x0 h0) k) := by
  rintro n hn k s ⟨x, h, t, rfl, hk, sm, vt, htN, sd, hT⟩
  have g := sd.g
  have v0 := (sm 0 (by omega) (by omega)).trans z0
  have v1 := (sm 1 (by omega) (by omega)).trans z1
  have vo := (sm 9 (by omega) (by omega)).trans z2
  have s117 : pg.sh 86 = false := rfl
  have ne : ∀ {q : Nat}, q < 11 → ∀ t, 11 ≤ t → (t = q) = False := fun hq t ht => by simp; omega
  by_cases hc : i ≤ t
  · have htS : t < d.size := by omega
    have ht1 : t < N := by omega
    have ht2 : t + 1 ≤ N := by omega
    have ha1 : a < N := by omega
    have ha2 : a + 1 ≤ N := by omega
    have w1 : IntKind.i64.wrap ((t : Int) - 1) = (((t - 1 : Nat) : Int)) := wn (by omega) (by omega)
    obtain ⟨C, hC⟩ : ∃ C, C = dl d := ⟨_, rfl⟩
    have hl := dl_le hC
    obtain ⟨vt', f1, e1, y1⟩ := get_fact htS hC
    obtain ⟨va, f2, e2, y2⟩ := get_fact haN hC
    rw [← hC] at g
    have r := lss_run va vt' (n := n) hn
    cases hlt : Go.Sort.ltInt va vt' with
    | true =>
      rw [hlt] at r
      rw [scanDown_go (show 1 ≤ t by omega) hc (by simp [lt, y1, y2, hlt])] at hT
      simp [k87l1, v0, v1, vo, vt, hc, w1, g, hl, hd, e1, e2, ht1, ht2, ha1, ha2, dcore_f, s117, r]
      exact ⟨k - 1, by omega, _, _, t - 1, rfl, by omega, fun q hq hq' => by simp [ne hq, Ne.symm hq', sm q hq hq'], by simp, by omega, by repeat' first | exact sd | refine SD.bump ?_ _, hT⟩
    | false =>
      rw [hlt] at r
      rw [scanDown_no (fun _ => by simp [lt, y1, y2, hlt])] at hT
      subst hT
      simp [k87l1, v0, v1, vo, vt, hc, g, hl, hd, e1, e2, ht1, ht2, ha1, ha2, dcore_f, s117, r]
      exact ⟨rfl, _, _, rfl, fun q hq hq' => by simp [ne hq, sm q hq hq'], by simp [vt], by repeat' first | exact sd | refine SD.bump ?_ _⟩
  · rw [scanDown_no (fun h => absurd h hc)] at hT
    subst hT
    simp [k87l1, vo, vt, hc, dcore_f, s117]
    exact ⟨rfl, _, _, rfl, fun q hq hq' => by simp [ne hq, sm q hq hq'], by simp [vt], by repeat' first | exact sd | refine SD.bump ?_ _⟩
end Go.Proofs.YtmncdmpeeibgmaaGreatDoor
