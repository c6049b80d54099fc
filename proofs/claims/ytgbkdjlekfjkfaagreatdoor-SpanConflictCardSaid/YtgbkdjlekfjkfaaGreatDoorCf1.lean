/- Which of the claims are believed, and whether these contradict, by the program. -/
import Derived.Test.YtgbkdjlekfjkfaaGreatDoorNe1
import Derived.Test.YtgbkdjlekfjkfaaGreatDoorWo1
namespace Go.Proofs.YtgbkdjlekfjkfaaGreatDoor
open Go Go.Em Go.Em.Net
set_option maxRecDepth 100000
def mapK (K : List Int) (B : Int → Bool) : List (D × D) := K.map fun v => (D.int v, D.bool (B v))
theorem mapD_K (K : List Int) : mapD K = mapK K fun _ => true := rfl
theorem findK (v : Int) (B : Int → Bool) : ∀ (l : List Int) (i : Nat), (v ∉ l ∧ findD .int (D.int v) (mapK l B) i = some none) ∨ ∃ j, findD .int (D.int v) (mapK l B) i = some (some (i + j, D.bool (B v))) ∧ ∃ (h : j < l.length), l[j] = v
  | [], i => .inl ⟨by simp, rfl⟩
  | a :: l, i => by
    have e : findD .int (D.int v) (mapK (a :: l) B) i = if (v == a) = true then some (some (i, D.bool (B a))) else findD .int (D.int v) (mapK l B) (i + 1) := by
      simp only [mapK, List.map_cons]
      conv => lhs; unfold findD
      simp only [cellEq, if_true]
      cases v == a <;> rfl
    rw [e]
    by_cases h : v = a
    · subst h
      rw [if_pos (by simp)]
      exact .inr ⟨0, rfl, by simp, by simp⟩
    · rw [if_neg (by simpa using h)]
      rcases findK v B l (i + 1) with ⟨h1, h2⟩ | ⟨j, h1, h2, h3⟩
      · exact .inl ⟨by simp [h, h1], h2⟩
      · exact .inr ⟨j + 1, by rw [h1, show i + 1 + j = i + (j + 1) by omega], by simp; omega, by simpa using h3⟩
theorem mapKE (B : Int → Bool) : ∀ l : List Int, D.canonE (mapK l B) = true
  | [] => rfl
  | a :: l => by
    have := mapKE B l
    simp only [mapK, List.map_cons, D.canonE] at this ⊢
    rw [this]; rfl
theorem nodup_at {K : List Int} (hK : K.Nodup) {i j : Nat} (hi : i < K.length) (hj : j < K.length) (h : K[i] = K[j]) : i = j := by
  apply Decidable.byContradiction
  intro hne
  rcases Nat.lt_or_gt_of_ne hne with g | g
  · exact List.pairwise_iff_getElem.1 hK i j hi hj g h
  · exact List.pairwise_iff_getElem.1 hK j i hj hi g h.symm
def updB (B : Int → Bool) (v : Int) (b : Bool) : Int → Bool := fun w => if w = v then b else B w
theorem mapK_set {K : List Int} (hK : K.Nodup) (B : Int → Bool) {j : Nat} (hj : j < K.length) (b : Bool) : (mapK K B).set j (D.int K[j], D.bool b) = mapK K (updB B K[j] b) := by
  refine List.ext_getElem (by simp [mapK]) fun i h1 h2 => ?_
  rw [List.getElem_set]
  have hi : i < K.length := by simpa [mapK] using h2
  by_cases e : j = i
  · subst e
    simp [mapK, updB]
  · have : K[i] ≠ K[j] := fun h => e (nodup_at hK hi hj h).symm
    simp [mapK, updB, e, this]
def inB (K : List Int) (B : Int → Bool) (v : Int) : Bool := decide (v ∈ K) && B v
theorem fl1_run (l : List Clm) (K : List Int) (B : Int → Bool) {i : Nat} (hi : i < l.length) {n : Nat} (hn : 1 ≤ n) : pureCall (rc pg n) 124 [D.int i, .eref [clsD l, .map (mapK K B)]] = some (.ret (D.bool (inB K B l[i].by_))) := by
  obtain ⟨m, rfl, e⟩ := body (pg := pg) (f := 124) (args := [D.int i, .eref [clsD l, .map (mapK K B)]]) (show 0 < n by omega) rfl rfl
  rw [e]
  obtain ⟨c, hc⟩ : ∃ c, l[i] = c := ⟨_, rfl⟩
  rcases findK c.by_ B K 0 with ⟨h1, h2⟩ | ⟨j, h1, h2, h3⟩
  · have hb : inB K B c.by_ = false := by unfold inB; simp [h1]
    simp [-findD, k124, Env.v_ini, clsD, hi, hc, clD, clC, D.cells, h2, hb]
    exact ⟨[], rfl⟩
  · have hb : inB K B c.by_ = B c.by_ := by unfold inB; rw [decide_eq_true (by rw [← h3]; exact List.getElem_mem h2), Bool.true_and]
    simp [-findD, k124, Env.v_ini, clsD, hi, hc, clD, clC, D.cells, h1, hb]
def onlyF (l : List Clm) (P : Int → Bool) : List Clm := l.filter fun c => P c.by_
theorem uF_only (l : List Clm) (P : Int → Bool) (U : Nat → Bool) : ∀ (x : List Clm) (i : Nat), (∀ j c, x[j]? = some c → U (i + j) = P c.by_) → uF U i x = onlyF x P
  | [], _, _ => rfl
  | c :: x, i, h => by
    have h0 := h 0 c rfl
    have ih := uF_only l P U x (i + 1) fun j d hd => by rw [show i + 1 + j = i + (j + 1) by omega]; exact h (j + 1) d (by simpa using hd)
    rw [uF, ih]
    rw [Nat.add_zero] at h0
    unfold onlyF
    rw [List.filter_cons, h0]
theorem con_mvs {M : List Int} {a b : List Mo} (h : mvs a = mvs b) : conF M a = conF M b := by unfold conF; rw [h]
set_option maxHeartbeats 4000000 in
theorem fails_run (l : List Clm) (h0 : chkF l = 0) (K : List Int) (B : Int → Bool) {n : Nat} (hn : 3000 ≤ n) : pureCall (rc pg n) 70 [.agg [clsD l, .map (mapK K B)]] = some (.ret (D.bool (badF (onlyF l (inB K B))))) := by
  obtain ⟨m, rfl, e⟩ := body (pg := pg) (f := 70) (args := [.agg [clsD l, .map (mapK K B)]]) (show 0 < n by omega) rfl rfl
  rw [e]
  obtain ⟨hl1, hl2, hl3⟩ := chk_ok h0
  obtain ⟨U, hU⟩ : ∃ U : Nat → Bool, U = fun i => match l[i]? with | some c => inB K B c.by_ | none => false := ⟨_, rfl⟩
  have hV : ∀ n, 100 ≤ n → ∀ i, i < l.length → pureCall (rc pg n) 124 [D.int i, .eref [clsD l, .map (mapK K B)]] = some (.ret (D.bool (U i))) := fun n hn i hi => by
    rw [fl1_run l K B hi (by omega), hU]
    simp only [List.getElem?_eq_getElem hi]
  have hu : uF U 0 l = onlyF l (inB K B) := uF_only l _ U l 0 fun j c hc => by rw [Nat.zero_add, hU]; simp only [hc]
  have hcc : D.canonL [D.eref [clsD l, .map (mapK K B)]] = true := by
    have := mapKE B K
    simp [clsD, canonL_map clD cl_canon l, D.canon, this]
  have gr := graphu_run l h0 U 124 [.eref [clsD l, .map (mapK K B)]] rfl hcc 100 (by omega) hV (n := m) (by omega)
  obtain ⟨u, hud⟩ : ∃ u, u = onlyF l (inB K B) := ⟨_, rfl⟩
  rw [hu, ← hud] at gr
  rw [← hud]
  have husub : ∀ c, c ∈ u → c ∈ l := fun c hc => by rw [hud] at hc; exact (List.mem_filter.1 hc).1
  have hul : u.length ≤ l.length := by rw [hud]; exact List.length_filter_le _ _
  have h1 : chkF u = 0 := chk_sub hul husub h0
  have g := good_movs h1
  have hmv : mvs (muF (marksF u) U 0 l) = mvs (movsF (marksF u) 0 u) := by rw [muF_mvs (marksF u) U l 0 0, hu, ← hud]
  have hmin : ∀ m ∈ muF (marksF u) U 0 l, m.fr < (marksF u).length ∧ m.to_ < (marksF u).length ∧ -100000 ≤ m.mo ∧ m.mo ≤ 100000 := fun q hq => by
    have : (q.fr, q.to_, q.mo) ∈ mvs (movsF (marksF u) 0 u) := by rw [← hmv]; exact List.mem_map.2 ⟨q, hq, rfl⟩
    obtain ⟨q', hq', e⟩ := List.mem_map.1 this
    obtain ⟨e1, e2⟩ := Prod.mk.inj e
    obtain ⟨e2, e3⟩ := Prod.mk.inj e2
    have b1 := g.hin q' hq'
    have b2 := g.bd q' hq'
    rw [← e1, ← e2, ← e3]
    exact ⟨b1.1, b1.2.1, b2.1, b2.2⟩
  have hml : (muF (marksF u) U 0 l).length ≤ 800 := by
    have := muF_len (marksF u) U l 0
    have := uF_len U l 0
    omega
  have cr := fun h => call_of (h := h) (pg := pg) (f := 109) rfl (gr_canon (marksF u) (muF (marksF u) U 0 l)) (con_run (marksF u) (muF (marksF u) U 0 l) (chk_ok h1).2.2 hml hmin (f := m) (by omega))
  rw [show conF (marksF u) (muF (marksF u) U 0 l) = badF u from con_mvs hmv] at cr
  obtain ⟨C, hC⟩ : ∃ C, C = clsD l := ⟨_, rfl⟩
  have hCc : C.canon = true := by rw [hC]; simp [clsD, canonL_map clD cl_canon l]
  have hC1 : D.one C = true := by rw [hC]; rfl
  rw [← hC] at gr
  have hE := mapKE B K
  obtain ⟨H, hH⟩ : ∃ H, H = ((Heap.empty.bump 8).set 1 (some (.cells 117 [C, .map (mapK K B)]))).bump 8 := ⟨_, rfl⟩
  have z1 : frz H 24 C = some (C, []) := frz_can (n := 23) hCc
  have z3 : frz H 22 C = some (C, []) := frz_can (n := 21) hCc
  have o2 : D.one (D.map (mapK K B)) = true := rfl
  have z4 : frz H 22 (D.map (mapK K B)) = some (D.map (mapK K B), []) := frz_can (n := 21) (by simpa [D.canon] using hE)
  have g1 : H.get 1 = some (.cells 117 [C, .map (mapK K B)]) := by rw [hH]; simp
  obtain ⟨h', c51⟩ := call_frzk (pg := pg) (f := 39) (a := C) (args := [.fn (.func 124) [] [.ptr 1 0]]) (bs := [C, .fn (.func 124) [] [.eref [C, .map (mapK K B)]]]) (ks := [1]) (h := H) rfl (by
    show each (frz H 24) _ = _
    simp [z1, z3, z4, g1]) gr
  obtain ⟨G, hG⟩ : ∃ G, G = grD (marksF u) (muF (marksF u) U 0 l) := ⟨_, rfl⟩
  rw [← hG] at c51 cr
  rw [← hC]
  simp [k70, Env.v_ini, D.cells, o2, hC1, ← hH, g1, c51, cr]
end Go.Proofs.YtgbkdjlekfjkfaaGreatDoor
/- Whether the claims contradict even without one source, by the program, in its caller's heap. -/
namespace Go.Proofs.YtgbkdjlekfjkfaaGreatDoor
open Go Go.Em Go.Em.Net
set_option maxRecDepth 100000
theorem eachE_K (h : Heap) (n : Nat) (B : Int → Bool) : ∀ l : List Int, eachE (Go.Em.frz h (n + 1)) (mapK l B) = some (mapK l B, [])
  | [] => rfl
  | a :: l => by
    have := eachE_K h n B l
    simp only [mapK, List.map_cons, eachE] at this ⊢
    rw [this]
    rfl
theorem frz_mapr {h : Heap} {b n : Nat} {K : List Int} {B : Int → Bool} (hg : h.get b = some (.map (mapK K B))) : Go.Em.frz h (n + 2) (.mapr b) = some (.map (mapK K B), [b]) := by
  conv => lhs; unfold Go.Em.frz
  rw [if_neg (by simp [D.canon])]
  simp only [hg, eachE_K h n B K, Option.map_some]
theorem callfzg {pg : Pg} {R : Rc} {f : FuncId} {a : D} {args bs : List D} {ks : List Nat} {h : Heap} {o : Out} (hs : pg.sh f = false) (ha : each (Go.Em.frz h depth) (a :: args) = some (bs, ks)) (x : pureCall R f bs = some o) (hf : o.d.flat = true) : call pg R f (a :: args) h = some (o, h) :=
  callfz hs ha x (by rw [hf]; simp)
theorem fails_call (l : List Clm) (h0 : chkF l = 0) (K : List Int) (B : Int → Bool) {b : Nat} {h : Heap} (hg : h.get b = some (.map (mapK K B))) {n : Nat} (hn : 3000 ≤ n) : call pg (rc pg n) 70 [.agg [clsD l, .mapr b]] h = some (.ret (D.bool (badF (onlyF l (inB K B)))), h) := by
  refine callfzg (bs := [.agg [clsD l, .map (mapK K B)]]) (ks := [b]) rfl ?_ (fails_run l h0 K B hn) rfl
  have z1 : frz h 23 (.mapr b) = _ := frz_mapr (n := 21) hg
  have z2 : frz h 23 (clsD l) = some (clsD l, []) := frz_can (n := 22) (by simp [clsD, canonL_map clD cl_canon l])
  show each (frz h 24) _ = _
  simp only [each_cons, each_nil, frz_agg', z1, z2, eachK_some, Option.map_some]
  rfl
theorem updB_upd (B : Int → Bool) (v : Int) (a b : Bool) : updB (updB B v a) v b = updB B v b := by
  funext w; unfold updB; split <;> rfl
set_option maxHeartbeats 4000000 in
theorem fw_sh (l : List Clm) (h0 : chkF l = 0) {K : List Int} (hK : K.Nodup) (B : Int → Bool) {v : Int} (hv : v ∈ K) {b : Nat} {h : Heap} (hg : h.get b = some (.map (mapK K B))) (hb : b < h.next) (hf : h.Fr) {n : Nat} (hn : 4000 ≤ n) :
    ∃ h', (rc pg n).fn 72 [.agg [clsD l, .mapr b], D.int v] h = some (.ret (D.bool (badF (onlyF l (inB K (updB B v false))))), h') ∧ h'.get b = some (.map (mapK K (updB B v true))) ∧ h'.Fr ∧ h.next ≤ h'.next ∧ ∀ j, j < h.next → j ≠ b → h'.raw j = h.raw j := by
  obtain ⟨m, rfl, e⟩ := fn_body (pg := pg) (f := 72) (args := [.agg [clsD l, .mapr b], D.int v]) (h := h) (show 0 < n by omega) rfl rfl
  rw [e]
  have hfr : ∀ j, h.raw (h.next + j) = none := fun j => hf _ (by omega)
  have n1 : ∀ j, (b = h.next + j) = False := fun j => by simp; omega
  have n2 : ∀ j, (h.next + j = b) = False := fun j => by simp; omega
  rcases findK v B K 0 with ⟨h1, _⟩ | ⟨j, f1, hj, hjv⟩
  · exact absurd hv h1
  rw [Nat.zero_add] at f1
  have s1 := mapK_set hK B hj false
  rw [hjv] at s1
  have f2 : findD .int (D.int v) (mapK K (updB B v false)) 0 = some (some (j, D.bool false)) := by
    rcases findK v (updB B v false) K 0 with ⟨h1, _⟩ | ⟨j', f3, hj', hjv'⟩
    · exact absurd hv h1
    · have : j' = j := nodup_at hK hj' hj (hjv'.trans hjv.symm)
      rw [f3, this, Nat.zero_add]
      simp [updB]
  have s2 := mapK_set hK (updB B v false) hj true
  rw [hjv, updB_upd] at s2
  have fc := fun H hg => fails_call l h0 K (updB B v false) (b := b) (h := H) hg (n := m) (by omega)
  have o1 : D.one (clsD l) = true := rfl
  have o2 : D.one (.mapr b) = true := rfl
  obtain ⟨C, hC⟩ : ∃ C, C = clsD l := ⟨_, rfl⟩
  rw [← hC] at fc o1 ⊢
  obtain ⟨r, hr⟩ : ∃ r, r = badF (onlyF l (inB K (updB B v false))) := ⟨_, rfl⟩
  rw [← hr] at fc ⊢
  simp [-findD, k72, Env.v_ini, hfr, n1, n2, hg, D.cells, o2, o1, f1, s1, f2, s2, fc]
  refine ⟨?_, by omega, fun j hj hjb => ?_⟩
  · repeat' first | exact hf | apply Heap.Fr.bump | apply Heap.Fr.set
    all_goals (simp <;> omega)
  · simp [hjb, show j ≠ h.next + 2 by omega]
end Go.Proofs.YtgbkdjlekfjkfaaGreatDoor
/- The set of numbers of a list in the heap, by the program. -/
namespace Go.Proofs.YtgbkdjlekfjkfaaGreatDoor
open Go Go.Em
set_option maxRecDepth 100000
end Go.Proofs.YtgbkdjlekfjkfaaGreatDoor
