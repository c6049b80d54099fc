/- The place of a mark that may not be there. -/
import Derived.Test.YtppfjkebamegnaaDoorKp1
import Derived.Test.YtppfjkebamegnaaDoorMul
import Derived.Test.YtppfjkebamegnaaDoorEmNet
namespace Go.Proofs.YtppfjkebamegnaaDoor
open Go Go.Em
set_option maxRecDepth 100000
def PI2 (M : List Int) (v : Int) (p : Nat) (k : Nat) (s : St) : Prop := ∃ (x : Env 54) (h : Heap) (i j : Nat), s = ⟨x.l, h, []⟩ ∧ j - i ≤ k ∧ i ≤ p ∧ p ≤ j ∧ j ≤ M.length ∧ x.v 0 = intsD M ∧ x.v 1 = D.int v ∧ x.v 6 = D.int M.length ∧ x.v 7 = D.int i ∧ x.v 8 = D.int j
def PQ2 (M : List Int) (v : Int) (p : Nat) (x : Ex) (s : St) : Prop := x = .exit 0 ∧ ∃ (x : Env 54) (h : Heap), s = ⟨x.l, h, []⟩ ∧ x.v 0 = intsD M ∧ x.v 1 = D.int v ∧ x.v 6 = D.int M.length ∧ x.v 7 = D.int p
set_option maxHeartbeats 1000000 in
theorem search_round2 (M : List Int) (hl : M.length ≤ 4000) (v : Int) (p : Nat) (hpv : ∀ q (h : q < M.length), M[q] < v ↔ q < p) : ∀ n, 2 ≤ n → ∀ k s, PI2 M v p k s → Res (k98l0.ev ⟨pg, 54, none⟩ (rc pg n) s) (Rnd (PI2 M v p) (PQ2 M v p) k) := by
  rintro n hn k s ⟨x, h, i, j, rfl, hk, hi, hj, hjl, v0, v1, v6, v7, v8⟩
  simp only [intsD] at v0
  by_cases hij : i < j
  · obtain ⟨q, hq⟩ : ∃ q, q = (i + j) / 2 := ⟨_, rfl⟩
    have hqM : q < M.length := by omega
    obtain ⟨w, hw⟩ : ∃ w, M[q] = w := ⟨_, rfl⟩
    have hcmp : w < v ↔ q < p := by rw [← hw]; exact hpv q hqM
    have w1 : IntKind.i64.wrap ((i : Int) + j) = ((i + j : Nat) : Int) := by rw [wrap_i64 (by omega) (by omega)]; omega
    have w2 : IntKind.u64.wrap ((i + j : Nat) : Int) = ((i + j : Nat) : Int) := wrap_u64 (by omega) (by omega)
    have w3 : IntKind.i64.wrap (((i + j) / 2 : Nat) : Int) = (q : Int) := by rw [wrap_i64 (by omega) (by omega)]; omega
    have w4 : IntKind.i64.wrap ((q : Int) + 1) = (q : Int) + 1 := wrap_i64 (by omega) (by omega)
    have sh := bin_shr1 (i + j)
    have hls := fun h => call_of (h := h) (pg := pg) (f := 117) (args := [D.int w, D.int v]) rfl (by simp) (@less_run w v n hn)
    obtain ⟨u, hu⟩ : ∃ u, u = i + j := ⟨_, rfl⟩
    have hq2 : (i + j) / 2 = q := hq.symm
    rw [hq2] at w3 sh
    rw [← hu] at w1 w2 sh
    by_cases hlt : w < v
    · simp [k98l0, v0, v1, v7, v8, hij, w1, w2, w3, sh, hqM, hw, hls, hlt, w4, D.cells]
      exact ⟨k - 1, by omega, _, _, q + 1, j, rfl, by omega, by have := hcmp.1 hlt; omega, hj, hjl, by simp [v0, intsD], by simp [v1], by simp [v6], by simp, by simp [v8]⟩
    · simp [k98l0, v0, v1, v7, v8, hij, w1, w2, w3, sh, hqM, hw, hls, hlt, D.cells]
      exact ⟨k - 1, by omega, _, _, i, q, rfl, by omega, hi, by have : ¬ q < p := fun h => hlt (hcmp.2 h); omega, by omega, by simp [v0, intsD], by simp [v1], by simp [v6], by simp [v7], by simp⟩
  · have hip : i = p := by omega
    subst hip
    have hij' : ¬ i < j := hij
    simp [k98l0, v7, v8, hij']
    exact ⟨rfl, _, _, rfl, by simp [v0, intsD], by simp [v1], by simp [v6], by simp [v7]⟩
def lessN (M : List Int) (v : Int) : Nat := (M.filter fun x => decide (x < v)).length
theorem lessN_le (M : List Int) (v : Int) : lessN M v ≤ M.length := List.length_filter_le _ _
theorem lessN_is : ∀ (M : List Int) (v : Int), Rise M → ∀ q (h : q < M.length), M[q] < v ↔ q < lessN M v
  | a :: M, v, hM, q, h => by
    unfold Rise at hM
    rw [List.pairwise_cons] at hM
    have ih := lessN_is M v hM.2
    unfold lessN at ih ⊢
    by_cases ha : a < v
    · rw [List.filter_cons_of_pos (by simpa using ha)]
      cases q with
      | zero => simp [ha]
      | succ q => simpa using ih q (by simpa using h)
    · have hno : ∀ x ∈ M, ¬ x < v := fun x hx => by have := hM.1 x hx; omega
      have hnil : M.filter (fun x => decide (x < v)) = [] := List.filter_eq_nil_iff.2 fun x hx => by simpa using hno x hx
      rw [List.filter_cons_of_neg (by simpa using ha), hnil]
      cases q with
      | zero => simp [ha]
      | succ q =>
        have := hno (M[q]'(by simpa using h)) (List.getElem_mem _)
        simp [this]
theorem nan81_run (a : Int) {n : Nat} (hn : 1 ≤ n) : pureCall (rc pg n) 118 [D.int a] = some (.ret (D.bool false)) := by
  obtain ⟨m, rfl, e⟩ := body (pg := pg) (f := 118) (args := [D.int a]) hn rfl rfl
  rw [e]
  simp [k118, Env.v_ini]
theorem search_none (M : List Int) (hM : Rise M) (hl : M.length ≤ 4000) (v : Int) (hv : v ∉ M) {n : Nat} (hn : M.length + 10 ≤ n) : pureCall (rc pg n) 98 [intsD M, D.int v] = some (.ret (.tup [D.int (lessN M v), D.bool false])) := by
  obtain ⟨m, rfl, e⟩ := body (pg := pg) (f := 98) (args := [intsD M, D.int v]) (show 0 < n by omega) rfl rfl
  rw [e]
  have hle := lessN_le M v
  have c81 := fun a h => call_of (h := h) (pg := pg) (f := 118) (args := [D.int a]) rfl (by simp) (@nan81_run a m (by omega))
  simp [k98, Env.v_ini, intsD, ev_loop]
  refine Res.endsAfter (lp_rule 2 (PI2 M v (lessN M v)) _ (search_round2 M hl v (lessN M v) (lessN_is M v hM)) M.length m _ (by omega) ⟨_, _, 0, M.length, rfl, by omega, by omega, by omega, by omega, by simp [Env.v_ini, intsD], by simp [Env.v_ini], by simp, by simp, by simp⟩) ?_
  rintro x s ⟨rfl, x, h, rfl, v0, v1, v6, v7⟩
  simp only [intsD] at v0
  by_cases hp : lessN M v < M.length
  · obtain ⟨w, hw⟩ : ∃ w, M[lessN M v] = w := ⟨_, rfl⟩
    have hne : (w == v) = false := by
      have : w ≠ v := fun e => hv (by rw [← e, ← hw]; exact List.getElem_mem hp)
      simpa using this
    simp [-beq_eq_false_iff_ne, v0, v1, v6, v7, hp, D.cells, hw, hne, c81]
  · simp [v0, v1, v6, v7, hp, D.cells]
theorem place_none (M : List Int) (hM : Rise M) (hl : M.length ≤ 4000) (v : Int) (hv : v ∉ M) {n : Nat} (hn : M.length + 11 ≤ n) : pureCall (rc pg n) 60 [intsD M, D.int v] = some (.ret (D.int (-1))) := by
  obtain ⟨m, rfl, e⟩ := body (pg := pg) (f := 60) (args := [intsD M, D.int v]) (show 0 < n by omega) rfl rfl
  rw [e]
  have h1 := fun h => call_of (h := h) (pg := pg) (f := 98) (args := [intsD M, D.int v]) rfl (by simp [intsD, ints_canonL]) (@search_none M hM hl v hv m (by omega))
  simp only [intsD] at h1
  simp [k60, Env.v_ini, intsD, h1]
end Go.Proofs.YtppfjkebamegnaaDoor
/- The closure of claims between two marks, by the program. -/
namespace Go.Proofs.YtppfjkebamegnaaDoor
open Go Go.Em Go.Em.Net
set_option maxRecDepth 100000
def posF (M : List Int) (v : Int) : Int := if v ∈ M then placeF M v else -1
theorem place_all (M : List Int) (hM : Rise M) (hl : M.length ≤ 64) (v : Int) {n : Nat} (hn : 80 ≤ n) : pureCall (rc pg n) 60 [intsD M, D.int v] = some (.ret (D.int (posF M v))) := by
  unfold posF
  by_cases hv : v ∈ M
  · obtain ⟨h1, h2⟩ := place_at hv
    have := @place_run M hM (by omega) _ h1 n (by omega)
    rw [h2] at this
    rw [if_pos hv]; exact this
  · rw [if_neg hv]; exact place_none M hM (by omega) v hv (by omega)
end Go.Proofs.YtppfjkebamegnaaDoor
/- Bounds, by the program. -/
namespace Go.Proofs.YtppfjkebamegnaaDoor
open Go Go.Em Go.Em.Net
set_option maxRecDepth 100000
end Go.Proofs.YtppfjkebamegnaaDoor
/- The closure of claims: it does not depend on their order, and no bound grows with more of them. -/
namespace Go.Proofs.YtppfjkebamegnaaDoor
open Go Go.Em Go.Em.Net
theorem mvs_mem {M : List Int} {x : Mv} : ∀ {l : List Clm} {i : Nat}, x ∈ mvs (movsF M i l) ↔ ∃ c ∈ l, x = (placeF M c.a, placeF M c.b, c.hi) ∨ x = (placeF M c.b, placeF M c.a, -c.lo)
  | [], i => by simp [movsF, mvs]
  | a :: l, i => by
    have ih := @mvs_mem M x l (i + 1)
    have e : mvs (movsF M i (a :: l)) = (placeF M a.a, placeF M a.b, a.hi) :: (placeF M a.b, placeF M a.a, -a.lo) :: mvs (movsF M (i + 1) l) := by simp [mvs, movsF, movF]
    rw [e, List.mem_cons, List.mem_cons, ih]
    simp only [List.mem_cons, exists_eq_or_imp, or_assoc]
theorem marks_sub {l x : List Clm} (h : ∀ c, c ∈ l → c ∈ x) : ∀ v, v ∈ marksF l → v ∈ marksF x := by
  intro v hv
  obtain ⟨c, hc, e⟩ := (marks_mem l v).1 hv
  exact (marks_mem x v).2 ⟨c, h c hc, e⟩
def upF (l x : List Clm) (i : Nat) : Nat := placeF (marksF x) ((marksF l).getD i 0)
theorem up_place {l x : List Clm} {v : Int} (hv : v ∈ marksF l) : upF l x (placeF (marksF l) v) = placeF (marksF x) v := by
  obtain ⟨h1, h2⟩ := place_at hv
  unfold upF
  rw [List.getD_eq_getElem?_getD, List.getElem?_eq_getElem h1, h2]; rfl
theorem up_lt {l x : List Clm} (h : ∀ c, c ∈ l → c ∈ x) {i : Nat} (hi : i < (marksF l).length) : upF l x i < (marksF x).length := by
  unfold upF
  rw [List.getD_eq_getElem?_getD, List.getElem?_eq_getElem hi]
  exact (place_at (marks_sub h _ (List.getElem_mem hi))).1
theorem net_sub {l x : List Clm} (h0 : chkF l = 0) (h1 : chkF x = 0) (h : ∀ c, c ∈ l → c ∈ x) : ∀ i j c, netF l i j = some c → ∃ d, netF x (upF l x i) (upF l x j) = some d ∧ d ≤ c := by
  have k := kn_EF (good_movs h0).hin
  have k' := kn_EF (good_movs h1).hin
  intro i j c hc
  rcases k.he i j c hc with ⟨rfl, rfl⟩ | hm
  · have hi : i < (marksF l).length := Decidable.byContradiction fun hn => by
      have := k.out i i (by omega)
      unfold netF at hc
      rw [this] at hc; cases hc
    exact ⟨0, k'.diag _ (up_lt h hi), Int.le_refl _⟩
  · obtain ⟨q, hq, e⟩ := mvs_mem.1 hm
    have ha : q.a ∈ marksF l := (marks_mem l q.a).2 ⟨q, hq, .inl rfl⟩
    have hb : q.b ∈ marksF l := (marks_mem l q.b).2 ⟨q, hq, .inr rfl⟩
    have hx : ∀ y, (y = (placeF (marksF x) q.a, placeF (marksF x) q.b, q.hi) ∨ y = (placeF (marksF x) q.b, placeF (marksF x) q.a, -q.lo)) → ∃ d, netF x y.1 y.2.1 = some d ∧ d ≤ y.2.2 := fun y hy => k'.hm y (mvs_mem.2 ⟨q, h q hq, hy⟩)
    rcases e with e | e
    · obtain ⟨e1, e2⟩ := Prod.mk.inj e
      obtain ⟨e2, e3⟩ := Prod.mk.inj e2
      rw [e1, e2, e3, up_place ha, up_place hb]
      exact hx _ (.inl rfl)
    · obtain ⟨e1, e2⟩ := Prod.mk.inj e
      obtain ⟨e2, e3⟩ := Prod.mk.inj e2
      rw [e1, e2, e3, up_place ha, up_place hb]
      exact hx _ (.inr rfl)
theorem pot_of {l : List Clm} (h0 : chkF l = 0) (hb : badF l = false) : ∃ p : Nat → Int, ∀ i j c, netF l i j = some c → p j ≤ p i + c := by
  have k := kn_EF (good_movs h0).hin
  by_cases hn : 0 < (marksF l).length
  · unfold badF conF at hb
    rw [decide_eq_true hn, Bool.true_and] at hb
    obtain ⟨p, hp⟩ := not_all hb
    refine ⟨p, fun i j c hc => ?_⟩
    rcases k.he i j c hc with ⟨rfl, rfl⟩ | hm
    · omega
    · exact hp _ hm
  · refine ⟨fun _ => 0, fun i j c hc => ?_⟩
    have := k.out i j (by omega)
    unfold netF at hc
    rw [this] at hc; cases hc
theorem bad_sub {l x : List Clm} (h0 : chkF l = 0) (h1 : chkF x = 0) (h : ∀ c, c ∈ l → c ∈ x) (hb : badF x = false) : badF l = false := by
  obtain ⟨p, hp⟩ := pot_of h1 hb
  refine (bad_iff h0).2 fun k _ i hi => ?_
  refine pot_diag (p := fun i => p (upF l x i)) (fun a b c hc => ?_) ((kn_EF (good_movs h0).hin).diag i hi) k
  obtain ⟨d, hd, hl⟩ := net_sub h0 h1 h a b c hc
  have := hp _ _ _ hd
  show p (upF l x b) ≤ p (upF l x a) + c
  omega
theorem clo_clsd {l : List Clm} (h0 : chkF l = 0) (hb : badF l = false) : Clsd (marksF l).length (cloF l) := by
  have hd := (bad_iff h0).1 hb
  refine ⟨fun i hi => hd _ (Nat.le_refl _) i hi, fun hl ha hb' => fw_closed _ (fun q hq => hd q (by omega) q hq) hl ha hb', fun h => fw_sym (good_movs h0).symE _ h⟩
theorem clo_out {l : List Clm} (h0 : chkF l = 0) : Out (marksF l).length (cloF l) := Out.fw (kn_EF (good_movs h0).hin).out _ (Nat.le_refl _)
theorem clo_sub {l x : List Clm} (h0 : chkF l = 0) (h1 : chkF x = 0) (h : ∀ c, c ∈ l → c ∈ x) (hb : badF x = false) {i j : Nat} {z : Int} (hz : cloF l i j = some z) : ∃ d, cloF x (upF l x i) (upF l x j) = some d ∧ d ≤ z := by
  have hd := (bad_iff h1).1 hb
  have hi : i < (marksF l).length := Decidable.byContradiction fun hn => by rw [clo_out h0 i j (by omega)] at hz; cases hz
  obtain ⟨w, h2, h3⟩ := way_map (net_sub h0 h1 h) (fw_way _ hz)
  obtain ⟨_, d, h4, h5⟩ := way_fw (kn_EF (good_movs h1).hin).out (fun q hq => hd q (by omega) q hq) (fun q hq => hd _ (Nat.le_refl _) q hq) h2 (up_lt h hi)
  exact ⟨d, h4, by omega⟩
theorem enc_some {N : Mx} {a b : Nat} {z : Int} (h : N a b = some z) : encM N a b = z := by simp [encM, enc, h]
theorem clo_small {l : List Clm} (h0 : chkF l = 0) (hb : badF l = false) : Bt (cloF l) := (good_movs h0).calm (chk_ok h0).2.2 ((bad_iff h0).1 hb) _ (Nat.le_refl _)
end Go.Proofs.YtppfjkebamegnaaDoor
/- Years that are given to marks one after the other, each within the room that the bounds leave it: mathematics. -/
namespace Go.Proofs.YtppfjkebamegnaaDoor
open Go Go.Em Go.Em.Net
def roomI (A : Nat → Nat → Int) (dt : Nat → Bool) (y : Nat → Int) (i : Nat) : Nat → Int × Int × Bool
  | 0 => (-1000000000, 1000000000, true)
  | J + 1 => if dt J = true ∧ A i J ≠ 1000000000 then (max (roomI A dt y i J).1 (y J - A i J), min (roomI A dt y i J).2.1 (y J + A J i), false) else roomI A dt y i J
structure FOk (n : Nat) (N : Mx) (dt : Nat → Bool) (y : Nat → Int) : Prop where
  kept : Kept N dt y
  root : ∀ j, j < n → dt j = true → ∃ r, r < n ∧ dt r = true ∧ N r j ≠ none ∧ -100000000 ≤ y r ∧ y r ≤ 100000000
theorem FOk.bd {n : Nat} {N : Mx} {dt : Nat → Bool} {y : Nat → Int} (f : FOk n N dt y) (h : Clsd n N) (hb : Bt N) {j : Nat} (hj : j < n) (hd : dt j = true) : -200000000 ≤ y j ∧ y j ≤ 200000000 := by
  obtain ⟨r, hr, h1, h2, h3, h4⟩ := f.root j hj hd
  obtain ⟨c, hc⟩ := Option.ne_none_iff_exists'.1 h2
  obtain ⟨d, hd'⟩ := Option.ne_none_iff_exists'.1 (h.sym h2)
  have a1 := f.kept r j c h1 hd hc
  have a2 := f.kept j r d hd h1 hd'
  have a3 := hb _ _ _ hc
  have a4 := hb _ _ _ hd'
  omega
def pickI (p : List Int) (t : Nat) (c : Int) : Int := if p = [] ∨ c < 1 then 0 else p.getD (t % p.length) 0 % c
structure Fs where
  dt : Nat → Bool
  y : Nat → Int
  t : Nat
def Fs.put (s : Fs) (i : Nat) (v : Int) (t : Nat) : Fs := ⟨fun q => if q = i then true else s.dt q, fun q => if q = i then v else s.y q, t⟩
def fillS (A : Nat → Nat → Int) (n : Nat) (p : List Int) (s : Fs) (i : Nat) : Fs :=
  if s.dt i = true then s
  else if (roomI A s.dt s.y i n).2.2 = true then s.put i 0 s.t
  else s.put i ((roomI A s.dt s.y i n).1 + pickI p s.t ((roomI A s.dt s.y i n).2.1 - (roomI A s.dt s.y i n).1 + 1)) (s.t + 1)
def fillN (A : Nat → Nat → Int) (n : Nat) (p : List Int) (s : Fs) : Nat → Fs
  | 0 => s
  | i + 1 => fillS A n p (fillN A n p s i) i
end Go.Proofs.YtppfjkebamegnaaDoor
/- Whether a net is closed, by the program: the closure of claims is. -/
namespace Go.Proofs.YtppfjkebamegnaaDoor
open Go Go.Em Go.Em.Net
set_option maxRecDepth 100000
def nD (M : List Int) (A : Nat → Nat → Int) : D := .agg [intsD M, rowsD M.length A]
theorem rows_canonL (n : Nat) (A : Nat → Nat → Int) : D.canonL ((List.range n).map fun i => D.sl false (yCs n (A i))) = true := canonL_map _ (fun i => by simp [yCs_canon]) _
theorem yCs_at {n : Nat} {y : Nat → Int} {j : Nat} (hj : j < n) (h : j < (yCs n y).length) : (yCs n y)[j]'h = D.int (y j) := Option.some.inj (by rw [← List.getElem?_eq_getElem h]; exact yCs_get hj)
theorem far_run (M : List Int) (A : Nat → Nat → Int) {i j : Nat} (hi : i < M.length) (hj : j < M.length) {n : Nat} (hn : 1 ≤ n) : pureCall (rc pg n) 49 [nD M A, D.int i, D.int j] = some (.ret (D.bool (A i j == 1000000000))) := by
  obtain ⟨m, rfl, e⟩ := body (pg := pg) (f := 49) (args := [nD M A, D.int i, D.int j]) (show 0 < n by omega) rfl rfl
  rw [e]
  have y1 := yCs_len M.length (A i)
  have g1 := fun h' => yCs_at (y := A i) hj h'
  simp [-beq_iff_eq, k49, Env.v_ini, nD, intsD, rowsD, D.cells, D.one, hi, hj, y1, g1]
def OvI (M : List Int) (A : Nat → Nat → Int) (i j : Nat) (k : Nat) (s : St) : Prop := ∃ (x : Env 52) (h : Heap) (q : Nat), s = ⟨x.l, h, []⟩ ∧ q + k = M.length ∧ x.v 1 = D.int i ∧ x.v 2 = D.int j ∧ x.v 3 = .ptr 3 0 ∧ x.v 11 = D.int M.length ∧ x.v 12 = D.int q ∧ h.get 3 = some (.cells 74 [intsD M, rowsD M.length A])
structure NOk (M : List Int) (A : Nat → Nat → Int) : Prop where
  len : M.length ≤ 64
  rise : Rise M
  in_ : ∀ v ∈ M, 0 ≤ v ∧ v ≤ 2048
  diag : ∀ i, i < M.length → A i i = 0
  wide : ∀ i j, i < M.length → j < M.length → A i j = 1000000000 ∨ (-40000000 ≤ A i j ∧ A i j ≤ 40000000)
  via : ∀ i j k, i < M.length → j < M.length → k < M.length → A i j ≠ 1000000000 → A j k ≠ 1000000000 → A i k ≤ A i j + A j k
set_option maxHeartbeats 8000000 in
theorem over_round {M : List Int} {A : Nat → Nat → Int} (o : NOk M A) {i j : Nat} (hi : i < M.length) (hj : j < M.length) (hA : A i j ≠ 1000000000) : ∀ n, 1 ≤ n → ∀ k s, OvI M A i j k s → Res (k100l0.ev ⟨pg, 52, none⟩ (rc pg n) s) (Rnd (OvI M A i j) (fun x s => x = .exit 0 ∧ OvI M A i j 0 s) k) := by
  rintro n hn k s ⟨x, h, q, rfl, hqk, v1, v2, v3, v11, v12, hg⟩
  have hl := o.len
  by_cases hq : q < M.length
  · have w1 : IntKind.i64.wrap ((q : Int) + 1) = (q : Int) + 1 := wrap_i64 (by omega) (by omega)
    have s75 : pg.sh 49 = false := rfl
    have hc1 := ints_canonL M
    have hc2 := rows_canonL M.length A
    have f1 := far_run M A hj hq hn
    have y1 := fun a => yCs_len M.length (A a)
    have g1 := fun h' => yCs_at (y := A i) hj h'
    have g2 := fun h' => yCs_at (y := A i) hq h'
    have g3 := fun h' => yCs_at (y := A j) hq h'
    have i1 : i + 1 ≤ M.length := hi
    have i2 : j + 1 ≤ M.length := hj
    have i3 : q + 1 ≤ M.length := hq
    simp only [nD, intsD, rowsD] at f1 hg
    by_cases hf : A j q = 1000000000
    · have hf' : (A j q == 1000000000) = true := by simp [hf]
      simp [-beq_iff_eq, k100l0, v1, v2, v3, v11, v12, hq, D.cells, D.one, hg, dcore_f, s75, hc1, hc2, f1, hf', w1]
      exact ⟨k - 1, by omega, _, _, q + 1, rfl, by omega, by simp [v1], by simp [v2], by simp [v3], by simp [v11], by simp, by simp [hg, intsD, rowsD]⟩
    · have hf' : (A j q == 1000000000) = false := by simp [hf]
      have hv := o.via i j q hi hj hq hA hf
      have b1 := o.wide i j hi hj
      have b2 := o.wide j q hj hq
      have w2 : IntKind.i64.wrap (A i j + A j q) = A i j + A j q := wrap_i64 (by omega) (by omega)
      have hgt : ¬ (A i j + A j q < A i q) := by omega
      simp [-beq_iff_eq, -beq_eq_false_iff_ne, k100l0, v1, v2, v3, v11, v12, hi, hj, hq, D.cells, D.one, hg, dcore_f, s75, hc1, hc2, f1, hf', w1, y1, g1, g2, g3, i1, i2, i3, w2, hgt]
      exact ⟨k - 1, by omega, _, _, q + 1, rfl, by omega, by simp [v1], by simp [v2], by simp [v3], by simp [v11], by simp, by simp [hg, intsD, rowsD]⟩
  · simp [k100l0, v11, v12, hq]
    exact ⟨_, _, q, rfl, by omega, by simp [v1], by simp [v2], by simp [v3], by simp [v11], by simp [v12], by simp [hg]⟩
theorem over_run {M : List Int} {A : Nat → Nat → Int} (o : NOk M A) {i j : Nat} (hi : i < M.length) (hj : j < M.length) (hA : A i j ≠ 1000000000) {n : Nat} (hn : 100 ≤ n) : pureCall (rc pg n) 100 [nD M A, D.int i, D.int j] = some (.ret (D.bool true)) := by
  obtain ⟨m, rfl, e⟩ := body (pg := pg) (f := 100) (args := [nD M A, D.int i, D.int j]) (show 0 < n by omega) rfl rfl
  rw [e]
  have hl := o.len
  simp [k100, Env.v_ini, nD, intsD, rowsD, D.cells, D.one, ev_loop]
  refine Res.endsAfter (lp_rule 1 (OvI M A i j) _ (over_round o hi hj hA) M.length m _ (by omega) ⟨_, _, 0, rfl, by omega, by simp [Env.v_ini], by simp [Env.v_ini], by simp, by simp, by simp, by simp [intsD, rowsD]⟩) ?_
  rintro x s ⟨rfl, x, h, q, rfl, _⟩
  simp
end Go.Proofs.YtppfjkebamegnaaDoor
/- Whether a net is closed, by the program: the loops, and the answer. -/
namespace Go.Proofs.YtppfjkebamegnaaDoor
open Go Go.Em Go.Em.Net
set_option maxRecDepth 100000
def R0 (M : List Int) (A : Nat → Nat → Int) (i : Nat) (k : Nat) (s : St) : Prop := ∃ (x : Env 39) (h : Heap) (q : Nat), s = ⟨x.l, h, []⟩ ∧ q + k = M.length ∧ x.v 1 = .ptr 1 0 ∧ x.v 3 = D.int i ∧ x.v 8 = D.int M.length ∧ x.v 9 = D.int i ∧ x.v 15 = D.int M.length ∧ x.v 16 = D.int q ∧ h.get 1 = some (.cells 74 [intsD M, rowsD M.length A])
set_option maxHeartbeats 8000000 in
theorem in_round0 {M : List Int} {A : Nat → Nat → Int} (o : NOk M A) {i : Nat} (hi : i < M.length) : ∀ n, 1 ≤ n → ∀ k s, R0 M A i k s → Res (k63l0.ev ⟨pg, 39, none⟩ (rc pg n) s) (Rnd (R0 M A i) (fun x s => x = .exit 2 ∧ R0 M A i 0 s) k) := by
  rintro n hn k s ⟨x, h, q, rfl, hqk, v1, v3, v8, v9, v15, v16, hg⟩
  have hl := o.len
  by_cases hq : q < M.length
  · have w1 : IntKind.i64.wrap ((q : Int) + 1) = (q : Int) + 1 := wrap_i64 (by omega) (by omega)
    have hc1 := ints_canonL M
    have hc2 := rows_canonL M.length A
    have f1 := fun h => call_of (h := h) (pg := pg) (f := 49) rfl (by simp [nD, intsD, rowsD, hc1, hc2]) (far_run M A hi hq hn)
    have y1 := fun a => yCs_len M.length (A a)
    have g2 := fun h' => yCs_at (y := A i) hq h'
    have i1 : i + 1 ≤ M.length := hi
    have i3 : q + 1 ≤ M.length := hq
    have hw := fun a lo hi h => within_run hn a lo hi h
    simp only [nD, intsD, rowsD] at f1 hg
    by_cases hf : A i q = 1000000000
    · have hf' : (A i q == 1000000000) = true := by simp [hf]
      simp [-beq_iff_eq, k63l0, v1, v3, v8, v9, v15, v16, hq, D.cells, D.one, hg, f1, hf', w1]
      exact ⟨k - 1, by omega, _, _, q + 1, rfl, by omega, by simp [v1], by simp [v3], by simp [v8], by simp [v9], by simp [v15], by simp, by simp [hg, intsD, rowsD]⟩
    · have hf' : (A i q == 1000000000) = false := by simp [hf]
      have b2 := o.wide i q hi hq
      have hr : inR (A i q) (-40000000) 40000000 = true := by
        unfold inR; simp; omega
      simp [-beq_iff_eq, -beq_eq_false_iff_ne, k63l0, v1, v3, v8, v9, v15, v16, hi, hq, D.cells, D.one, hg, f1, hf', w1, y1, g2, i1, i3, hw, hr]
      exact ⟨k - 1, by omega, _, _, q + 1, rfl, by omega, by simp [v1], by simp [v3], by simp [v8], by simp [v9], by simp [v15], by simp, by simp [hg, intsD, rowsD]⟩
  · simp [k63l0, v15, v16, hq]
    exact ⟨_, _, q, rfl, by omega, by simp [v1], by simp [v3], by simp [v8], by simp [v9], by simp [v15], by simp [v16], by simp [hg]⟩
def R1 (M : List Int) (A : Nat → Nat → Int) (k : Nat) (s : St) : Prop := ∃ (x : Env 39) (h : Heap) (q : Nat), s = ⟨x.l, h, []⟩ ∧ q + k = M.length ∧ x.v 1 = .ptr 1 0 ∧ x.v 8 = D.int M.length ∧ x.v 9 = D.int q ∧ h.get 1 = some (.cells 74 [intsD M, rowsD M.length A])
set_option maxHeartbeats 8000000 in
theorem in_round1 {M : List Int} {A : Nat → Nat → Int} (o : NOk M A) : ∀ n, 100 ≤ n → ∀ k s, R1 M A k s → Res (k63l1.ev ⟨pg, 39, none⟩ (rc pg n) s) (Rnd (R1 M A) (fun x s => x = .exit 0 ∧ R1 M A 0 s) k) := by
  rintro n hn k s ⟨x, h, q, rfl, hqk, v1, v8, v9, hg⟩
  have hl := o.len
  by_cases hq : q < M.length
  · have w1 : IntKind.i64.wrap ((q : Int) + 1) = (q : Int) + 1 := wrap_i64 (by omega) (by omega)
    simp only [intsD, rowsD] at hg
    simp [k63l1, v1, v8, v9, hq, D.cells, hg, ev_loop]
    refine Res.after (Res.block (lp_rule 1 (R0 M A q) _ (in_round0 o hq) M.length n _ (by omega) ⟨_, _, 0, rfl, by omega, by simp [v1], by simp, by simp [v8], by simp [v9], by simp, by simp, by simp [hg, intsD, rowsD]⟩) (Q := fun x s => x = .normal ∧ R0 M A q 0 s) ?_) ?_
    · rintro x s ⟨rfl, hr⟩
      simpa using hr
    · rintro x s ⟨rfl, x, h, q', rfl, hq', u1, u3, u8, u9, u15, u16, hg'⟩
      simp [u9, w1]
      exact ⟨k - 1, by omega, _, _, q + 1, rfl, by omega, by simp [u1], by simp [u8], by simp, by simp [hg']⟩
  · simp [k63l1, v8, v9, hq]
    exact ⟨_, _, q, rfl, by omega, by simp [v1], by simp [v8], by simp [v9], by simp [hg]⟩
end Go.Proofs.YtppfjkebamegnaaDoor
/- Whether a net is closed, by the program: the other loops, and the answer. -/
namespace Go.Proofs.YtppfjkebamegnaaDoor
open Go Go.Em Go.Em.Net
set_option maxRecDepth 100000
def S0 (M : List Int) (A : Nat → Nat → Int) (i : Nat) (k : Nat) (s : St) : Prop := ∃ (x : Env 43) (h : Heap) (q : Nat), s = ⟨x.l, h, []⟩ ∧ q + k = M.length ∧ x.v 1 = .ptr 1 0 ∧ x.v 3 = D.int i ∧ x.v 8 = D.int M.length ∧ x.v 9 = D.int i ∧ x.v 25 = D.int M.length ∧ x.v 26 = D.int q ∧ h.get 1 = some (.cells 74 [intsD M, rowsD M.length A])
set_option maxHeartbeats 8000000 in
theorem cl_round0 {M : List Int} {A : Nat → Nat → Int} (o : NOk M A) {i : Nat} (hi : i < M.length) : ∀ n, 100 ≤ n → ∀ k s, S0 M A i k s → Res (k69l0.ev ⟨pg, 43, none⟩ (rc pg n) s) (Rnd (S0 M A i) (fun x s => x = .exit 2 ∧ S0 M A i 0 s) k) := by
  rintro n hn k s ⟨x, h, q, rfl, hqk, v1, v3, v8, v9, v15, v16, hg⟩
  have hl := o.len
  by_cases hq : q < M.length
  · have w1 : IntKind.i64.wrap ((q : Int) + 1) = (q : Int) + 1 := wrap_i64 (by omega) (by omega)
    have hc1 := ints_canonL M
    have hc2 := rows_canonL M.length A
    have f1 := fun h => call_of (h := h) (pg := pg) (f := 49) rfl (by simp [nD, intsD, rowsD, hc1, hc2]) (far_run M A hi hq (show 1 ≤ n by omega))
    simp only [nD, intsD, rowsD] at f1 hg
    by_cases hf : A i q = 1000000000
    · have hf' : (A i q == 1000000000) = true := by simp [hf]
      simp [-beq_iff_eq, k69l0, v1, v3, v8, v9, v15, v16, hq, D.cells, D.one, hg, f1, hf', w1]
      exact ⟨k - 1, by omega, _, _, q + 1, rfl, by omega, by simp [v1], by simp [v3], by simp [v8], by simp [v9], by simp [v15], by simp, by simp [hg, intsD, rowsD]⟩
    · have hf' : (A i q == 1000000000) = false := by simp [hf]
      have f2 := fun h => call_of (h := h) (pg := pg) (f := 100) rfl (by simp [nD, intsD, rowsD, hc1, hc2]) (over_run o hi hq hf (show 100 ≤ n by omega))
      simp only [nD, intsD, rowsD] at f2
      simp [-beq_iff_eq, -beq_eq_false_iff_ne, k69l0, v1, v3, v8, v9, v15, v16, hq, D.cells, D.one, hg, f1, f2, hf', w1]
      exact ⟨k - 1, by omega, _, _, q + 1, rfl, by omega, by simp [v1], by simp [v3], by simp [v8], by simp [v9], by simp [v15], by simp, by simp [hg, intsD, rowsD]⟩
  · simp [k69l0, v15, v16, hq]
    exact ⟨_, _, q, rfl, by omega, by simp [v1], by simp [v3], by simp [v8], by simp [v9], by simp [v15], by simp [v16], by simp [hg]⟩
def S1 (M : List Int) (A : Nat → Nat → Int) (k : Nat) (s : St) : Prop := ∃ (x : Env 43) (h : Heap) (q : Nat), s = ⟨x.l, h, []⟩ ∧ q + k = M.length ∧ x.v 1 = .ptr 1 0 ∧ x.v 8 = D.int M.length ∧ x.v 9 = D.int q ∧ h.get 1 = some (.cells 74 [intsD M, rowsD M.length A])
set_option maxHeartbeats 8000000 in
theorem cl_round1 {M : List Int} {A : Nat → Nat → Int} (o : NOk M A) : ∀ n, 200 ≤ n → ∀ k s, S1 M A k s → Res (k69l1.ev ⟨pg, 43, none⟩ (rc pg n) s) (Rnd (S1 M A) (fun x s => x = .exit 0 ∧ S1 M A 0 s) k) := by
  rintro n hn k s ⟨x, h, q, rfl, hqk, v1, v8, v9, hg⟩
  have hl := o.len
  by_cases hq : q < M.length
  · have w1 : IntKind.i64.wrap ((q : Int) + 1) = (q : Int) + 1 := wrap_i64 (by omega) (by omega)
    have y1 := yCs_len M.length (A q)
    have g2 := fun h' => yCs_at (y := A q) hq h'
    have d1 := o.diag q hq
    have i3 : q + 1 ≤ M.length := hq
    simp only [intsD, rowsD] at hg
    simp [k69l1, v1, v8, v9, hq, D.cells, D.one, hg, y1, g2, d1, i3, ev_loop]
    refine Res.after (Res.block (lp_rule 100 (S0 M A q) _ (cl_round0 o hq) M.length n _ (by omega) ⟨_, _, 0, rfl, by omega, by simp [v1], by simp, by simp [v8], by simp [v9], by simp, by simp, by simp [hg, intsD, rowsD]⟩) (Q := fun x s => x = .normal ∧ S0 M A q 0 s) ?_) ?_
    · rintro x s ⟨rfl, hr⟩
      simpa using hr
    · rintro x s ⟨rfl, x, h, q', rfl, hq', u1, u3, u8, u9, u15, u16, hg'⟩
      simp [u9, w1]
      exact ⟨k - 1, by omega, _, _, q + 1, rfl, by omega, by simp [u1], by simp [u8], by simp, by simp [hg']⟩
  · simp [k69l1, v8, v9, hq]
    exact ⟨_, _, q, rfl, by omega, by simp [v1], by simp [v8], by simp [v9], by simp [hg]⟩
theorem clsd_run {M : List Int} {A : Nat → Nat → Int} (o : NOk M A) {n : Nat} (hn : 400 ≤ n) : pureCall (rc pg n) 69 [nD M A] = some (.ret (D.bool true)) := by
  obtain ⟨m, rfl, e⟩ := body (pg := pg) (f := 69) (args := [nD M A]) (show 0 < n by omega) rfl rfl
  rw [e]
  have hl := o.len
  simp [k69, Env.v_ini, nD, intsD, rowsD, D.cells, D.one, ev_loop]
  refine Res.endsAfter (lp_rule 200 (S1 M A) _ (cl_round1 o) M.length m _ (by omega) ⟨_, _, 0, rfl, by omega, by simp, by simp, by simp, by simp [intsD, rowsD]⟩) ?_
  rintro x s ⟨rfl, x, h, q, rfl, _⟩
  simp
theorem range_run {M : List Int} {A : Nat → Nat → Int} (o : NOk M A) {n : Nat} (hn : 400 ≤ n) : pureCall (rc pg n) 63 [nD M A] = some (.ret (D.bool true)) := by
  obtain ⟨m, rfl, e⟩ := body (pg := pg) (f := 63) (args := [nD M A]) (show 0 < n by omega) rfl rfl
  rw [e]
  have hl := o.len
  simp [k63, Env.v_ini, nD, intsD, rowsD, D.cells, D.one, ev_loop]
  refine Res.endsAfter (lp_rule 100 (R1 M A) _ (in_round1 o) M.length m _ (by omega) ⟨_, _, 0, rfl, by omega, by simp, by simp, by simp, by simp [intsD, rowsD]⟩) ?_
  rintro x s ⟨rfl, x, h, q, rfl, _⟩
  simp
def H0 (M : List Int) (A : Nat → Nat → Int) (k : Nat) (s : St) : Prop := ∃ (x : Env 59) (h : Heap) (q : Nat) (la : Int), s = ⟨x.l, h, []⟩ ∧ q + k = M.length ∧ x.v 1 = .ptr 1 0 ∧ x.v 3 = D.int la ∧ x.v 24 = D.int M.length ∧ x.v 25 = D.int q ∧ h.get 1 = some (.cells 74 [intsD M, rowsD M.length A]) ∧ -1 ≤ la ∧ la ≤ 2048 ∧ ∀ hq : q < M.length, la < M[q]
set_option maxHeartbeats 8000000 in
theorem form_round {M : List Int} {A : Nat → Nat → Int} (o : NOk M A) : ∀ n, 1 ≤ n → ∀ k s, H0 M A k s → Res (k68l0.ev ⟨pg, 59, none⟩ (rc pg n) s) (Rnd (H0 M A) (fun x s => x = .exit 0 ∧ H0 M A 0 s) k) := by
  rintro n hn k s ⟨x, h, q, la, rfl, hqk, v1, v3, v24, v25, hg, a1, a2, a3⟩
  have hl := o.len
  by_cases hq : q < M.length
  · have w1 : IntKind.i64.wrap ((q : Int) + 1) = (q : Int) + 1 := wrap_i64 (by omega) (by omega)
    have w2 : IntKind.i64.wrap (la + 1) = la + 1 := wrap_i64 (by omega) (by omega)
    have y1 := yCs_len M.length (A q)
    have hm := a3 hq
    obtain ⟨v, hv⟩ : ∃ v, M[q] = v := ⟨_, rfl⟩
    have hin := o.in_ v (by rw [← hv]; exact List.getElem_mem hq)
    rw [hv] at hm
    have hr : inR v (la + 1) 2048 = true := by unfold inR; simp; omega
    have s53 : pg.sh 42 = false := rfl
    have hw : pureCall (rc pg n) 42 [D.int v, D.int (la + 1), D.int 2048] = some (.ret (D.bool true)) := by
      obtain ⟨m, rfl, e⟩ := body (pg := pg) (f := 42) (args := [D.int v, D.int (la + 1), D.int 2048]) (show 0 < n by omega) rfl rfl
      rw [e]
      have e1 : la + 1 ≤ v := by omega
      have e2 : v ≤ 2048 := by omega
      simp [k42, Env.v_ini, e1, e2]
    simp only [intsD, rowsD] at hg
    simp [k68l0, v1, v3, v24, v25, hq, D.cells, D.one, hg, hv, w2, dcore_f, s53, hw, y1, w1]
    refine ⟨k - 1, by omega, _, _, q + 1, v, rfl, by omega, by simp [v1], by simp, by simp [v24], by simp, by simp [hg, intsD, rowsD], by omega, by omega, fun hq' => ?_⟩
    rw [← hv]
    exact List.pairwise_iff_getElem.1 o.rise q (q + 1) hq hq' (by omega)
  · simp [k68l0, v24, v25, hq]
    exact ⟨_, _, q, la, rfl, by omega, by simp [v1], by simp [v3], by simp [v24], by simp [v25], by simp [hg], a1, a2, a3⟩
theorem form_run {M : List Int} {A : Nat → Nat → Int} (o : NOk M A) {n : Nat} (hn : 400 ≤ n) : pureCall (rc pg n) 68 [nD M A] = some (.ret (D.bool true)) := by
  obtain ⟨m, rfl, e⟩ := body (pg := pg) (f := 68) (args := [nD M A]) (show 0 < n by omega) rfl rfl
  rw [e]
  have hl := o.len
  have hl' : ¬ (64 : Int) < M.length := by omega
  simp [k68, Env.v_ini, nD, intsD, rowsD, D.cells, D.one, hl', ev_loop]
  refine Res.endsAfter (lp_rule 1 (H0 M A) _ (form_round o) M.length m _ (by omega) ⟨_, _, 0, -1, rfl, by omega, by simp, by simp, by simp, by simp, by simp [intsD, rowsD], by omega, by omega, fun hq => ?_⟩) ?_
  · have := o.in_ _ (List.getElem_mem hq)
    omega
  rintro x s ⟨rfl, x, h, q, la, rfl, _⟩
  simp
theorem check_net {M : List Int} {A : Nat → Nat → Int} (o : NOk M A) {n : Nat} (hn : 500 ≤ n) : pureCall (rc pg n) 21 [nD M A] = some (.ret (D.int 0)) := by
  obtain ⟨m, rfl, e⟩ := body (pg := pg) (f := 21) (args := [nD M A]) (show 0 < n by omega) rfl rfl
  rw [e]
  have hc1 := ints_canonL M
  have hc2 := rows_canonL M.length A
  have f1 := fun h => call_of (h := h) (pg := pg) (f := 68) rfl (by simp [nD, intsD, rowsD, hc1, hc2]) (form_run o (show 400 ≤ m by omega))
  have f2 := fun h => call_of (h := h) (pg := pg) (f := 63) rfl (by simp [nD, intsD, rowsD, hc1, hc2]) (range_run o (show 400 ≤ m by omega))
  have f3 := fun h => call_of (h := h) (pg := pg) (f := 69) rfl (by simp [nD, intsD, rowsD, hc1, hc2]) (clsd_run o (show 400 ≤ m by omega))
  simp only [nD, intsD, rowsD] at f1 f2 f3
  simp [k21, Env.v_ini, nD, intsD, rowsD, D.cells, D.one, f1, f2, f3]
theorem clo_wide {l : List Clm} (h0 : chkF l = 0) (hb : badF l = false) {i j : Nat} {z : Int} (hz : cloF l i j = some z) : -20000000 ≤ z ∧ z ≤ 20000000 := by
  have g := good_movs h0
  have k := kn_EF g.hin
  have hn := (chk_ok h0).2.2
  have hd := (bad_iff h0).1 hb
  have hB : ∀ i j c, netF l i j = some c → -100000 ≤ c ∧ c ≤ 100000 := by
    intro i j c hc
    rcases k.he i j c hc with ⟨_, rfl⟩ | hm
    · omega
    · obtain ⟨m, hm1, hm2⟩ := List.mem_map.1 hm
      have := g.bd m hm1
      have e : m.mo = c := (Prod.mk.inj (Prod.mk.inj hm2).2).2
      omega
  have := fw_bounds (B := 100000) (by omega) hB g.symE k.out (marksF l).length (Nat.le_refl _) hd hz
  omega
theorem clo_nok {l : List Clm} (h0 : chkF l = 0) (hb : badF l = false) : NOk (marksF l) (encM (cloF l)) := by
  obtain ⟨h1, h2, h3⟩ := chk_ok h0
  have c := clo_clsd h0 hb
  have bt := clo_small h0 hb
  refine ⟨h3, marks_rise l, fun v hv => ?_, fun i hi => ?_, fun i j hi hj => ?_, fun i j k hi hj hk ha hb' => ?_⟩
  · obtain ⟨q, hq, e⟩ := (marks_mem l v).1 hv
    have := ok_marks (h2 q hq)
    rcases e with rfl | rfl <;> omega
  · exact enc_some (c.diag i hi)
  · cases e : cloF l i j with
    | none => exact .inl ((enc_far bt).2 e)
    | some z => have := clo_wide h0 hb e; right; rw [enc_some e]; omega
  · obtain ⟨a, ea⟩ := Option.ne_none_iff_exists'.1 (show cloF l i j ≠ none from fun e => ha ((enc_far bt).2 e))
    obtain ⟨b, eb⟩ := Option.ne_none_iff_exists'.1 (show cloF l j k ≠ none from fun e => hb' ((enc_far bt).2 e))
    obtain ⟨z, h4, h5⟩ := c.via hj ea eb
    rw [enc_some ea, enc_some eb, enc_some h4]
    exact h5
end Go.Proofs.YtppfjkebamegnaaDoor
/- The closure of claims, by the program's exported function; nets that are equal; claims with one more. -/
namespace Go.Proofs.YtppfjkebamegnaaDoor
open Go Go.Em Go.Em.Net
set_option maxRecDepth 100000
def nilN : D := .agg [.sl false [], .sl false []]
def cerF (l : List Clm) : Int := if chkF l ≠ 0 then chkF l else if badF l = true then 25 else 0
def cloD' (l : List Clm) : D := .tup [if cerF l = 0 then nD (marksF l) (encM (cloF l)) else nilN, D.int (cerF l)]
theorem cer_ok {l : List Clm} (h : cerF l = 0) : chkF l = 0 ∧ badF l = false := by
  unfold cerF at h
  split at h
  · rename_i h1; exact absurd h h1
  · rename_i h1
    split at h
    · cases h
    · rename_i h2; exact ⟨by simpa using h1, by simpa using h2⟩
theorem cer_of {l : List Clm} (h0 : chkF l = 0) (hb : badF l = false) : cerF l = 0 := by unfold cerF; simp [h0, hb]
set_option maxHeartbeats 8000000 in
theorem close_run (l : List Clm) {f : Nat} (hf : 1200 ≤ f) : pureCall (rc pg f) 25 [clsD l] = some (.ret (cloD' l)) := by
  obtain ⟨m, rfl, e⟩ := body (pg := pg) (f := 25) (args := [clsD l]) (show 0 < f by omega) rfl rfl
  rw [e]
  have c30 := fun h => call_of (h := h) (pg := pg) (f := 29) rfl (cls_canon l) (@chk_run l m (by omega))
  simp only [clsD] at c30
  by_cases h0 : chkF l = 0
  · rw [h0] at c30
    have c46 := fun h => call_of (h := h) (pg := pg) (f := 51) rfl (two_ok l) (@graph_run l h0 m (by omega))
    have c48 := fun h => call_of (h := h) (pg := pg) (f := 70) rfl (gr_canon (marksF l) (movsF (marksF l) 0 l)) (@closure_all l h0 m (by omega))
    simp only [clsD, eachD, grD, intsD, mosD] at c46 c48
    have hc1 := ints_canonL (marksF l)
    cases hbad : badF l with
    | true =>
      have e0 : cerF l = 25 := by unfold cerF; simp [h0, hbad]
      have e1 : cloD' l = .tup [nilN, D.int 25] := by unfold cloD'; rw [e0]; rfl
      rw [hbad] at c48
      simp only [cond_true] at c48
      simp [-beq_iff_eq, k25, Env.v_ini, clsD, D.cells, D.one, c30, c46, c48, e1, nilN]
    | false =>
      have e0 : cerF l = 0 := cer_of h0 hbad
      have e1 : cloD' l = .tup [nD (marksF l) (encM (cloF l)), D.int 0] := by unfold cloD'; rw [e0]; rfl
      rw [hbad] at c48
      simp only [cond_false] at c48
      have hcX := rows_canonL (marksF l).length (encM (cloF l))
      have hx20 := fun H => each_canon H 20 _ hcX
      unfold rowsD at c48
      simp [-beq_iff_eq, k25, Env.v_ini, clsD, D.cells, D.one, c30, c46, c48, e1, nD, intsD, rowsD, hx20]
  · have h0' : (chkF l != 0) = true := by simpa using h0
    have e0 : cerF l = chkF l := by unfold cerF; rw [if_pos h0]
    have e1 : cloD' l = .tup [nilN, D.int (chkF l)] := by unfold cloD'; rw [e0, if_neg h0]
    simp [-bne_iff_ne, k25, Env.v_ini, clsD, D.cells, D.one, c30, h0', e1, nilN]
/-! ### Equal nets -/
theorem sameF_self (a : List Int) : sameF a a = true := by unfold sameF; simp
def SN (M : List Int) (A : Nat → Nat → Int) (k : Nat) (s : St) : Prop := ∃ (x : Env 40) (h : Heap) (q : Nat), s = ⟨x.l, h, []⟩ ∧ q + k = M.length ∧ x.v 2 = .ptr 2 0 ∧ x.v 3 = .ptr 3 0 ∧ x.v 23 = D.int M.length ∧ x.v 24 = D.int q ∧ h.get 2 = some (.cells 40 [intsD M, rowsD M.length A]) ∧ h.get 3 = some (.cells 40 [intsD M, rowsD M.length A])
theorem yCs_ints (n : Nat) (y : Nat → Int) : yCs n y = ((List.range n).map y).map D.int := by unfold yCs; rw [List.map_map]; rfl
set_option maxHeartbeats 8000000 in
theorem sn_round (M : List Int) (A : Nat → Nat → Int) (hl : M.length ≤ 64) : ∀ n, 80 ≤ n → ∀ k s, SN M A k s → Res (k23l0.ev ⟨pg, 40, none⟩ (rc pg n) s) (Rnd (SN M A) (fun x s => x = .exit 0 ∧ SN M A 0 s) k) := by
  rintro n hn k s ⟨x, h, q, rfl, hqk, v2, v3, v23, v24, hg, hg'⟩
  by_cases hq : q < M.length
  · have w1 : IntKind.i64.wrap ((q : Int) + 1) = (q : Int) + 1 := wrap_i64 (by omega) (by omega)
    have s51 : pg.sh 30 = false := rfl
    have f1 := @sameI_run ((List.range M.length).map (A q)) ((List.range M.length).map (A q)) (by simp; omega) n (by simp; omega)
    rw [sameF_self] at f1
    simp only [intsD, ← yCs_ints] at f1
    have hc := yCs_canon M.length (A q)
    simp only [intsD, rowsD] at hg hg'
    simp [k23l0, v2, v3, v23, v24, hq, D.cells, D.one, hg, hg', dcore_f, s51, f1, hc, w1]
    exact ⟨k - 1, by omega, _, _, q + 1, rfl, by omega, by simp [v2], by simp [v3], by simp [v23], by simp, by simp [hg, intsD, rowsD], by simp [hg', intsD, rowsD]⟩
  · simp [k23l0, v23, v24, hq]
    exact ⟨_, _, q, rfl, by omega, by simp [v2], by simp [v3], by simp [v23], by simp [v24], by simp [hg], by simp [hg']⟩
theorem same_net (M : List Int) (A : Nat → Nat → Int) (hl : M.length ≤ 64) {n : Nat} (hn : 300 ≤ n) : pureCall (rc pg n) 23 [nD M A, nD M A] = some (.ret (D.bool true)) := by
  obtain ⟨m, rfl, e⟩ := body (pg := pg) (f := 23) (args := [nD M A, nD M A]) (show 0 < n by omega) rfl rfl
  rw [e]
  have f1 := fun h => call_of (h := h) (pg := pg) (f := 30) rfl (by simp [intsD, ints_canonL]) (@sameI_run M M (by omega) m (by omega))
  rw [sameF_self] at f1
  simp only [intsD] at f1
  simp [k23, Env.v_ini, nD, intsD, rowsD, D.cells, D.one, f1, ev_loop]
  refine Res.endsAfter (lp_rule 80 (SN M A) _ (sn_round M A hl) M.length m _ (by omega) ⟨_, _, 0, rfl, by omega, by simp, by simp, by simp, by simp, by simp [intsD, rowsD], by simp [intsD, rowsD]⟩) ?_
  rintro x s ⟨rfl, x, h, q, rfl, _⟩
  simp
theorem same_nil {n : Nat} (hn : 300 ≤ n) : pureCall (rc pg n) 23 [nilN, nilN] = some (.ret (D.bool true)) := same_net [] (fun _ _ => 0) (by simp) hn
end Go.Proofs.YtppfjkebamegnaaDoor
/- The closure does not depend on the order of the claims: rotations; one more claim; places; remainders. -/
namespace Go.Proofs.YtppfjkebamegnaaDoor
open Go Go.Em Go.Em.Net
set_option maxRecDepth 100000
theorem with_c_run (l : List Clm) (c : Clm) (hl : (l.length + 1) * 40 ≤ 140737488355328) {n : Nat} (hn : 1 ≤ n) : pureCall (rc pg n) 24 [clsD l, clD c] = some (.ret (clsD (l ++ [c]))) := by
  obtain ⟨m, rfl, e⟩ := body (pg := pg) (f := 24) (args := [clsD l, clD c]) (show 0 < n by omega) rfl rfl
  rw [e]
  have h2 := cls_cells l
  have h3 := cls_one l
  have hall : (l.map clD).all (fun e => e.cells.length == 5) = true := by simp [clD, clC, D.cells]
  by_cases h0 : l = []
  · subst h0
    have z1 := fun t hh news k ty cs => appS_zero5 (t := t) (h := hh) (m := 1) (news := news) (k := k) (ty := ty) (cs := cs) (by omega) (by unfold room; omega) (by unfold maxLen; omega)
    simp [k24, Env.v_ini, clsD, clD, clC, D.cells, D.one, zerosD, apK_some, apK_zero_slr, z1, List.range_succ]
    rfl
  · have hlen : l.length ≠ 0 := fun h => h0 (List.eq_nil_of_length_eq_zero h)
    have z := fun t hh news k ty cs => appS_zero5 (t := t) (h := hh) (m := l.length) (news := news) (k := k) (ty := ty) (cs := cs) (by omega) (by unfold room; omega) (by unfold maxLen; omega)
    have z2 := fun t hh news k => appS_none (t := t) (et := 42) (sz := 5) (bytes := 40) (h := hh) (m := 1) (news := news) (k := k) (n := l.length) (cs := l.flatMap clC) (cells_len l) (by omega) (by unfold room; omega) (by unfold maxLen; omega)
    simp [k24, Env.v_ini, clsD, clD, clC, D.cells, D.one, zerosD, apK_some, z, z2, hall, h2, h3, hlen, List.range_succ]
    have hs : (List.map (fun _ : Clm => 5) l).sum = l.length * 5 := by rw [List.map_const', List.sum_replicate_nat]
    have hcat : l.flatMap clC ++ [D.int c.a, D.int c.b, D.int c.lo, D.int c.hi, D.int c.by_] = (l ++ [c]).flatMap clC := by simp [clC]
    have htk : ((l ++ [c]).flatMap clC).take ((l.length + 1) * 5) = (l ++ [c]).flatMap clC := List.take_of_length_le (by rw [cells_len]; simp)
    have hch := cells_chunk (l ++ [c]) (l.length + 1) (by simp)
    rw [hcat, htk]
    refine ⟨by omega, _, _, _, each_canon _ 22 _ (cells_canon (l ++ [c])), ?_, rfl⟩
    rw [hch]; simp [clD, clC]
end Go.Proofs.YtppfjkebamegnaaDoor
