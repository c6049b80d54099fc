/- The closure of claims: it does not depend on their order, and no bound grows with more of them. -/
import Derived.Test.YtjgafgkkpofgbaaDoorMul
import Derived.Test.YtjgafgkkpofgbaaDoorEmNet
import Derived.Test.YtjgafgkkpofgbaaDoorPl
namespace Go.Proofs.YtjgafgkkpofgbaaDoor
open Go Go.Em Go.Em.Net
theorem mvs_mem {M : List Int} {x : Mv} : ∀ {l : List Clm} {i : Nat}, x ∈ mvs (movsF M i l) ↔ ∃ c ∈ l, x = (placeF M c.a, placeF M c.b, c.hi) ∨ x = (placeF M c.b, placeF M c.a, -c.lo)
  | [], i => by simp [movsF, mvs]
  | a :: l, i => by
    have ih := @mvs_mem M x l (i + 1)
    have e : mvs (movsF M i (a :: l)) = (placeF M a.a, placeF M a.b, a.hi) :: (placeF M a.b, placeF M a.a, -a.lo) :: mvs (movsF M (i + 1) l) := by simp [mvs, movsF, movF]
    rw [e, List.mem_cons, List.mem_cons, ih]
    simp only [List.mem_cons, exists_eq_or_imp, or_assoc]
theorem marks_perm {l x : List Clm} (h : ∀ c, c ∈ l ↔ c ∈ x) : marksF l = marksF x := by
  refine rise_eq (marks_rise l) (marks_rise x) fun v => ?_
  rw [marks_mem, marks_mem]
  constructor
  · rintro ⟨c, hc, e⟩; exact ⟨c, (h c).1 hc, e⟩
  · rintro ⟨c, hc, e⟩; exact ⟨c, (h c).2 hc, e⟩
theorem all_perm {l x : List Clm} (h : ∀ c, c ∈ l ↔ c ∈ x) : l.all okF = x.all okF := by
  rw [Bool.eq_iff_iff, List.all_eq_true, List.all_eq_true]
  exact ⟨fun k c hc => k c ((h c).2 hc), fun k c hc => k c ((h c).1 hc)⟩
theorem chk_perm {l x : List Clm} (hl : l.length = x.length) (h : ∀ c, c ∈ l ↔ c ∈ x) : chkF l = chkF x := by
  unfold chkF
  rw [hl, all_perm h, marks_perm h]
theorem net_perm {l x : List Clm} (h0 : chkF l = 0) (h1 : chkF x = 0) (h : ∀ c, c ∈ l ↔ c ∈ x) : netF l = netF x := by
  have hM := marks_perm h
  have k := kn_EF (good_movs h0).hin
  have k' := kn_EF (good_movs h1).hin
  rw [← hM] at k'
  have hmv : ∀ y, y ∈ mvs (movsF (marksF l) 0 l) ↔ y ∈ mvs (movsF (marksF l) 0 x) := by
    intro y
    rw [mvs_mem, mvs_mem]
    constructor
    · rintro ⟨c, hc, e⟩; exact ⟨c, (h c).1 hc, e⟩
    · rintro ⟨c, hc, e⟩; exact ⟨c, (h c).2 hc, e⟩
  unfold netF
  rw [← hM]
  have key : ∀ {a b : List Mo}, Kn (marksF l).length (EF (marksF l).length a) a → Kn (marksF l).length (EF (marksF l).length b) b → (∀ y, y ∈ mvs a → y ∈ mvs b) → ∀ {i j : Nat} {c : Int}, EF (marksF l).length a i j = some c → ∃ d, EF (marksF l).length b i j = some d ∧ d ≤ c := by
    intro a b ka kb hab i j c hc
    rcases ka.he i j c hc with ⟨rfl, rfl⟩ | hm
    · have hi : i < (marksF l).length := Decidable.byContradiction fun hn => by rw [ka.out i i (by omega)] at hc; cases hc
      exact ⟨0, kb.diag i hi, Int.le_refl _⟩
    · exact kb.hm _ (hab _ hm)
  funext i j
  cases e1 : EF (marksF l).length (movsF (marksF l) 0 l) i j with
  | none =>
    cases e2 : EF (marksF l).length (movsF (marksF l) 0 x) i j with
    | none => rfl
    | some d =>
      obtain ⟨c, hc, _⟩ := key k' k (fun y => (hmv y).2) e2
      rw [e1] at hc; cases hc
  | some c =>
    obtain ⟨d, hd, h2⟩ := key k k' (fun y => (hmv y).1) e1
    obtain ⟨c', hc, h3⟩ := key k' k (fun y => (hmv y).2) hd
    rw [e1] at hc
    have := Option.some.inj hc
    rw [hd]
    congr 1
    omega
theorem clo_perm {l x : List Clm} (h0 : chkF l = 0) (h1 : chkF x = 0) (h : ∀ c, c ∈ l ↔ c ∈ x) : cloF l = cloF x := by
  unfold cloF
  rw [net_perm h0 h1 h, marks_perm h]
theorem bad_perm {l x : List Clm} (h0 : chkF l = 0) (h1 : chkF x = 0) (h : ∀ c, c ∈ l ↔ c ∈ x) : badF l = badF x := by
  have hb := bad_iff h0
  rw [net_perm h0 h1 h, marks_perm h] at hb
  have hb' := bad_iff h1
  cases e1 : badF l <;> cases e2 : badF x
  · rfl
  · rw [hb'.2 (hb.1 e1)] at e2; cases e2
  · rw [hb.2 (hb'.1 e2)] at e1; cases e1
  · rfl
/-! ### More claims -/
theorem rise_len : ∀ (m l : List Int), Rise l → Rise m → (∀ x, x ∈ l → x ∈ m) → l.length ≤ m.length
  | _, [], _, _, _ => Nat.zero_le _
  | [], a :: l, _, _, h => absurd (h a List.mem_cons_self) List.not_mem_nil
  | b :: m, a :: l, hl, hm, h => by
    have hl' := List.pairwise_cons.1 hl
    have hm' := List.pairwise_cons.1 hm
    rw [List.length_cons, List.length_cons]
    by_cases e : a = b
    · subst e
      have := rise_len m l hl'.2 hm'.2 fun x hx => by
        have h1 := hl'.1 x hx
        rcases List.mem_cons.1 (h x (List.mem_cons_of_mem _ hx)) with rfl | h2
        · omega
        · exact h2
      omega
    · have ha : a ∈ m := by
        rcases List.mem_cons.1 (h a List.mem_cons_self) with e' | h2
        · exact absurd e' e
        · exact h2
      have hba := hm'.1 a ha
      have := rise_len m (a :: l) hl hm'.2 fun x hx => by
        rcases List.mem_cons.1 (h x hx) with rfl | h2
        · rcases List.mem_cons.1 hx with rfl | hx
          · omega
          · have := hl'.1 _ hx; omega
        · exact h2
      rw [List.length_cons] at this
      omega
theorem marks_sub {l x : List Clm} (h : ∀ c, c ∈ l → c ∈ x) : ∀ v, v ∈ marksF l → v ∈ marksF x := by
  intro v hv
  obtain ⟨c, hc, e⟩ := (marks_mem l v).1 hv
  exact (marks_mem x v).2 ⟨c, h c hc, e⟩
theorem chk_zero {l : List Clm} (h1 : l.length ≤ 400) (h2 : ∀ c ∈ l, okF c = true) (h3 : (marksF l).length ≤ 64) : chkF l = 0 := by
  unfold chkF
  rw [if_neg (by omega), if_pos (List.all_eq_true.2 h2), if_neg (by omega)]
theorem chk_sub {l x : List Clm} (hl : l.length ≤ x.length) (h : ∀ c, c ∈ l → c ∈ x) (h0 : chkF x = 0) : chkF l = 0 := by
  obtain ⟨h1, h2, h3⟩ := chk_ok h0
  have := rise_len _ _ (marks_rise l) (marks_rise x) (marks_sub h)
  exact chk_zero (by omega) (fun c hc => h2 c (h c hc)) (by omega)
/-- The place among more marks. -/
def upF (l x : List Clm) (i : Nat) : Nat := placeF (marksF x) ((marksF l).getD i 0)
theorem up_place {l x : List Clm} {v : Int} (hv : v ∈ marksF l) : upF l x (placeF (marksF l) v) = placeF (marksF x) v := by
  obtain ⟨h1, h2⟩ := place_at hv
  unfold upF
  rw [List.getD_eq_getElem?_getD, List.getElem?_eq_getElem h1, h2]; rfl
theorem up_lt {l x : List Clm} (h : ∀ c, c ∈ l → c ∈ x) {i : Nat} (hi : i < (marksF l).length) : upF l x i < (marksF x).length := by
  unfold upF
  rw [List.getD_eq_getElem?_getD, List.getElem?_eq_getElem hi]
  exact (place_at (marks_sub h _ (List.getElem_mem hi))).1
theorem net_sub {l x : List Clm} (h0 : chkF l = 0) (h1 : chkF x = 0) (h : ∀ c, c ∈ l → c ∈ x) : ∀ i j c, netF l i j = some c → ∃ d, netF x (upF l x i) (upF l x j) = some d ∧ d ≤ c := by
  have k := kn_EF (good_movs h0).hin
  have k' := kn_EF (good_movs h1).hin
  intro i j c hc
  rcases k.he i j c hc with ⟨rfl, rfl⟩ | hm
  · have hi : i < (marksF l).length := Decidable.byContradiction fun hn => by
      have := k.out i i (by omega)
      unfold netF at hc
      rw [this] at hc; cases hc
    exact ⟨0, k'.diag _ (up_lt h hi), Int.le_refl _⟩
  · obtain ⟨q, hq, e⟩ := mvs_mem.1 hm
    have ha : q.a ∈ marksF l := (marks_mem l q.a).2 ⟨q, hq, .inl rfl⟩
    have hb : q.b ∈ marksF l := (marks_mem l q.b).2 ⟨q, hq, .inr rfl⟩
    have hx : ∀ y, (y = (placeF (marksF x) q.a, placeF (marksF x) q.b, q.hi) ∨ y = (placeF (marksF x) q.b, placeF (marksF x) q.a, -q.lo)) → ∃ d, netF x y.1 y.2.1 = some d ∧ d ≤ y.2.2 := fun y hy => k'.hm y (mvs_mem.2 ⟨q, h q hq, hy⟩)
    rcases e with e | e
    · obtain ⟨e1, e2⟩ := Prod.mk.inj e
      obtain ⟨e2, e3⟩ := Prod.mk.inj e2
      rw [e1, e2, e3, up_place ha, up_place hb]
      exact hx _ (.inl rfl)
    · obtain ⟨e1, e2⟩ := Prod.mk.inj e
      obtain ⟨e2, e3⟩ := Prod.mk.inj e2
      rw [e1, e2, e3, up_place ha, up_place hb]
      exact hx _ (.inr rfl)
/-- Claims without a contradiction have years. -/
theorem pot_of {l : List Clm} (h0 : chkF l = 0) (hb : badF l = false) : ∃ p : Nat → Int, ∀ i j c, netF l i j = some c → p j ≤ p i + c := by
  have k := kn_EF (good_movs h0).hin
  by_cases hn : 0 < (marksF l).length
  · unfold badF conF at hb
    rw [decide_eq_true hn, Bool.true_and] at hb
    obtain ⟨p, hp⟩ := not_all hb
    refine ⟨p, fun i j c hc => ?_⟩
    rcases k.he i j c hc with ⟨rfl, rfl⟩ | hm
    · omega
    · exact hp _ hm
  · refine ⟨fun _ => 0, fun i j c hc => ?_⟩
    have := k.out i j (by omega)
    unfold netF at hc
    rw [this] at hc; cases hc
theorem bad_sub {l x : List Clm} (h0 : chkF l = 0) (h1 : chkF x = 0) (h : ∀ c, c ∈ l → c ∈ x) (hb : badF x = false) : badF l = false := by
  obtain ⟨p, hp⟩ := pot_of h1 hb
  refine (bad_iff h0).2 fun k _ i hi => ?_
  refine pot_diag (p := fun i => p (upF l x i)) (fun a b c hc => ?_) ((kn_EF (good_movs h0).hin).diag i hi) k
  obtain ⟨d, hd, hl⟩ := net_sub h0 h1 h a b c hc
  have := hp _ _ _ hd
  show p (upF l x b) ≤ p (upF l x a) + c
  omega
theorem clo_out {l : List Clm} (h0 : chkF l = 0) : Out (marksF l).length (cloF l) := Out.fw (kn_EF (good_movs h0).hin).out _ (Nat.le_refl _)
theorem clo_sub {l x : List Clm} (h0 : chkF l = 0) (h1 : chkF x = 0) (h : ∀ c, c ∈ l → c ∈ x) (hb : badF x = false) {i j : Nat} {z : Int} (hz : cloF l i j = some z) : ∃ d, cloF x (upF l x i) (upF l x j) = some d ∧ d ≤ z := by
  have hd := (bad_iff h1).1 hb
  have hi : i < (marksF l).length := Decidable.byContradiction fun hn => by rw [clo_out h0 i j (by omega)] at hz; cases hz
  obtain ⟨w, h2, h3⟩ := way_map (net_sub h0 h1 h) (fw_way _ hz)
  obtain ⟨_, d, h4, h5⟩ := way_fw (kn_EF (good_movs h1).hin).out (fun q hq => hd q (by omega) q hq) (fun q hq => hd _ (Nat.le_refl _) q hq) h2 (up_lt h hi)
  exact ⟨d, h4, by omega⟩
theorem clo_small {l : List Clm} (h0 : chkF l = 0) (hb : badF l = false) : Bt (cloF l) := (good_movs h0).calm (chk_ok h0).2.2 ((bad_iff h0).1 hb) _ (Nat.le_refl _)
theorem enc_le {l : List Clm} (h0 : chkF l = 0) (hb : badF l = false) (i j : Nat) : encM (cloF l) i j ≤ 1000000000 := by
  cases e : cloF l i j with
  | none => simp [encM, enc, e]
  | some z => have := clo_small h0 hb i j z e; simp [encM, enc, e]; omega
theorem clo_enc_sub {l x : List Clm} (h0 : chkF l = 0) (h1 : chkF x = 0) (h : ∀ c, c ∈ l → c ∈ x) (hb : badF x = false) (i j : Nat) : encM (cloF x) (upF l x i) (upF l x j) ≤ encM (cloF l) i j := by
  cases e : cloF l i j with
  | none =>
    have := enc_le h1 hb (upF l x i) (upF l x j)
    have : encM (cloF l) i j = 1000000000 := by simp [encM, enc, e]
    omega
  | some z =>
    obtain ⟨d, h2, h3⟩ := clo_sub h0 h1 h hb e
    simp [encM, enc, e, h2, h3]
end Go.Proofs.YtjgafgkkpofgbaaDoor
/- Whether a net is closed, by the program: the closure of claims is. -/
namespace Go.Proofs.YtjgafgkkpofgbaaDoor
open Go Go.Em Go.Em.Net
set_option maxRecDepth 100000
def nD (M : List Int) (A : Nat → Nat → Int) : D := .agg [intsD M, rowsD M.length A]
theorem rows_canonL (n : Nat) (A : Nat → Nat → Int) : D.canonL ((List.range n).map fun i => D.sl false (yCs n (A i))) = true := canonL_map _ (fun i => by simp [yCs_canon]) _
theorem yCs_at {n : Nat} {y : Nat → Int} {j : Nat} (hj : j < n) (h : j < (yCs n y).length) : (yCs n y)[j]'h = D.int (y j) := Option.some.inj (by rw [← List.getElem?_eq_getElem h]; exact yCs_get hj)
end Go.Proofs.YtjgafgkkpofgbaaDoor
/- Whether a net is closed, by the program: the loops, and the answer. -/
namespace Go.Proofs.YtjgafgkkpofgbaaDoor
open Go Go.Em Go.Em.Net
set_option maxRecDepth 100000
end Go.Proofs.YtjgafgkkpofgbaaDoor
/- Whether a net is closed, by the program: the other loops, and the answer. -/
namespace Go.Proofs.YtjgafgkkpofgbaaDoor
open Go Go.Em Go.Em.Net
set_option maxRecDepth 100000
end Go.Proofs.YtjgafgkkpofgbaaDoor
/- The closure of claims, by the program's exported function; nets that are equal; claims with one more. -/
namespace Go.Proofs.YtjgafgkkpofgbaaDoor
open Go Go.Em Go.Em.Net
set_option maxRecDepth 100000
def nilN : D := .agg [.sl false [], .sl false []]
/-- Close's error. -/
def cerF (l : List Clm) : Int := if chkF l ≠ 0 then chkF l else if badF l = true then 25 else 0
def cloD' (l : List Clm) : D := .tup [if cerF l = 0 then nD (marksF l) (encM (cloF l)) else nilN, D.int (cerF l)]
theorem cer_ok {l : List Clm} (h : cerF l = 0) : chkF l = 0 ∧ badF l = false := by
  unfold cerF at h
  split at h
  · rename_i h1; exact absurd h h1
  · rename_i h1
    split at h
    · cases h
    · rename_i h2; exact ⟨by simpa using h1, by simpa using h2⟩
theorem cer_of {l : List Clm} (h0 : chkF l = 0) (hb : badF l = false) : cerF l = 0 := by unfold cerF; simp [h0, hb]
set_option maxHeartbeats 8000000 in
theorem close_run (l : List Clm) {f : Nat} (hf : 1200 ≤ f) : pureCall (rc pg f) 24 [clsD l] = some (.ret (cloD' l)) := by
  obtain ⟨m, rfl, e⟩ := body (pg := pg) (f := 24) (args := [clsD l]) (show 0 < f by omega) rfl rfl
  rw [e]
  have c30 := fun h => call_of (h := h) (pg := pg) (f := 52) rfl (cls_canon l) (@chk_run l m (by omega))
  simp only [clsD] at c30
  by_cases h0 : chkF l = 0
  · rw [h0] at c30
    have c46 := fun h => call_of (h := h) (pg := pg) (f := 65) rfl (two_ok l) (@graph_run l h0 m (by omega))
    have c48 := fun h => call_of (h := h) (pg := pg) (f := 64) rfl (gr_canon (marksF l) (movsF (marksF l) 0 l)) (@closure_all l h0 m (by omega))
    simp only [clsD, eachD, grD, intsD, mosD] at c46 c48
    have hc1 := ints_canonL (marksF l)
    cases hbad : badF l with
    | true =>
      have e0 : cerF l = 25 := by unfold cerF; simp [h0, hbad]
      have e1 : cloD' l = .tup [nilN, D.int 25] := by unfold cloD'; rw [e0]; rfl
      rw [hbad] at c48
      simp only [cond_true] at c48
      simp [-beq_iff_eq, k24, Env.v_ini, clsD, D.cells, D.one, c30, c46, c48, e1, nilN]
    | false =>
      have e0 : cerF l = 0 := cer_of h0 hbad
      have e1 : cloD' l = .tup [nD (marksF l) (encM (cloF l)), D.int 0] := by unfold cloD'; rw [e0]; rfl
      rw [hbad] at c48
      simp only [cond_false] at c48
      have hcX := rows_canonL (marksF l).length (encM (cloF l))
      have hx20 := fun H => each_canon H 20 _ hcX
      unfold rowsD at c48
      simp [-beq_iff_eq, k24, Env.v_ini, clsD, D.cells, D.one, c30, c46, c48, e1, nD, intsD, rowsD, hx20]
  · have h0' : (chkF l != 0) = true := by simpa using h0
    have e0 : cerF l = chkF l := by unfold cerF; rw [if_pos h0]
    have e1 : cloD' l = .tup [nilN, D.int (chkF l)] := by unfold cloD'; rw [e0, if_neg h0]
    simp [-bne_iff_ne, k24, Env.v_ini, clsD, D.cells, D.one, c30, h0', e1, nilN]
/-! ### Equal nets -/
theorem sameF_self (a : List Int) : sameF a a = true := by unfold sameF; simp
def SN (M : List Int) (A : Nat → Nat → Int) (k : Nat) (s : St) : Prop := ∃ (x : Env 40) (h : Heap) (q : Nat), s = ⟨x.l, h, []⟩ ∧ q + k = M.length ∧ x.v 2 = .ptr 2 0 ∧ x.v 3 = .ptr 3 0 ∧ x.v 23 = D.int M.length ∧ x.v 24 = D.int q ∧ h.get 2 = some (.cells 42 [intsD M, rowsD M.length A]) ∧ h.get 3 = some (.cells 42 [intsD M, rowsD M.length A])
theorem yCs_ints (n : Nat) (y : Nat → Int) : yCs n y = ((List.range n).map y).map D.int := by unfold yCs; rw [List.map_map]; rfl
set_option maxHeartbeats 8000000 in
theorem sn_round (M : List Int) (A : Nat → Nat → Int) (hl : M.length ≤ 64) : ∀ n, 80 ≤ n → ∀ k s, SN M A k s → Res (k26l0.ev ⟨pg, 40, none⟩ (rc pg n) s) (Rnd (SN M A) (fun x s => x = .exit 0 ∧ SN M A 0 s) k) := by
  rintro n hn k s ⟨x, h, q, rfl, hqk, v2, v3, v23, v24, hg, hg'⟩
  by_cases hq : q < M.length
  · have w1 : IntKind.i64.wrap ((q : Int) + 1) = (q : Int) + 1 := wrap_i64 (by omega) (by omega)
    have s51 : pg.sh 51 = false := rfl
    have f1 := @sameI_run ((List.range M.length).map (A q)) ((List.range M.length).map (A q)) (by simp; omega) n (by simp; omega)
    rw [sameF_self] at f1
    simp only [intsD, ← yCs_ints] at f1
    have hc := yCs_canon M.length (A q)
    simp only [intsD, rowsD] at hg hg'
    simp [k26l0, v2, v3, v23, v24, hq, D.cells, D.one, hg, hg', dcore_f, s51, f1, hc, w1]
    exact ⟨k - 1, by omega, _, _, q + 1, rfl, by omega, by simp [v2], by simp [v3], by simp [v23], by simp, by simp [hg, intsD, rowsD], by simp [hg', intsD, rowsD]⟩
  · simp [k26l0, v23, v24, hq]
    exact ⟨_, _, q, rfl, by omega, by simp [v2], by simp [v3], by simp [v23], by simp [v24], by simp [hg], by simp [hg']⟩
theorem same_net (M : List Int) (A : Nat → Nat → Int) (hl : M.length ≤ 64) {n : Nat} (hn : 300 ≤ n) : pureCall (rc pg n) 26 [nD M A, nD M A] = some (.ret (D.bool true)) := by
  obtain ⟨m, rfl, e⟩ := body (pg := pg) (f := 26) (args := [nD M A, nD M A]) (show 0 < n by omega) rfl rfl
  rw [e]
  have f1 := fun h => call_of (h := h) (pg := pg) (f := 51) rfl (by simp [intsD, ints_canonL]) (@sameI_run M M (by omega) m (by omega))
  rw [sameF_self] at f1
  simp only [intsD] at f1
  simp [k26, Env.v_ini, nD, intsD, rowsD, D.cells, D.one, f1, ev_loop]
  refine Res.endsAfter (lp_rule 80 (SN M A) _ (sn_round M A hl) M.length m _ (by omega) ⟨_, _, 0, rfl, by omega, by simp, by simp, by simp, by simp, by simp [intsD, rowsD], by simp [intsD, rowsD]⟩) ?_
  rintro x s ⟨rfl, x, h, q, rfl, _⟩
  simp
theorem same_nil {n : Nat} (hn : 300 ≤ n) : pureCall (rc pg n) 26 [nilN, nilN] = some (.ret (D.bool true)) := same_net [] (fun _ _ => 0) (by simp) hn
end Go.Proofs.YtjgafgkkpofgbaaDoor
/- The closure does not depend on the order of the claims: rotations; one more claim; places; remainders. -/
namespace Go.Proofs.YtjgafgkkpofgbaaDoor
open Go Go.Em Go.Em.Net
set_option maxRecDepth 100000
theorem mod_run (p n : Int) (h0 : 0 < n) (hn : n ≤ 4611686018427387904) {m : Nat} (hm : 1 ≤ m) : pureCall (rc pg m) 28 [D.int p, D.int n] = some (.ret (D.int (p % n))) := by
  obtain ⟨k, rfl, e⟩ := body (pg := pg) (f := 28) (args := [D.int p, D.int n]) (show 0 < m by omega) rfl rfl
  rw [e]
  have hne : n ≠ 0 := by omega
  have h1 : p.tmod n < n := Int.tmod_lt_of_pos p h0
  have h2 : -n < p.tmod n := by have := Int.lt_tmod_of_pos p h0; omega
  have w1 : IntKind.i64.wrap (p.tmod n + n) = p.tmod n + n := wrap_i64 (by omega) (by omega)
  have e1 : (p.tmod n + n).tmod n = p % n := by
    rw [Int.tmod_eq_emod_of_nonneg (by omega), Int.add_emod_right]
    have : p.tmod n % n = p % n := by
      have h3 : p.tmod n = p - n * p.tdiv n := by have := Int.tmod_add_mul_tdiv p n; omega
      rw [h3, Int.sub_emod, Int.mul_emod_right, Int.sub_zero, Int.emod_emod_of_dvd _ (Int.dvd_refl n)]
    exact this
  simp [k28, Env.v_ini, bin_rem hne, w1, e1]
/-- A list from a place on, and then what stood ahead of it. -/
def rotF (l : List Clm) (r : Nat) : List Clm := l.drop r ++ l.take r
theorem rot_mem (l : List Clm) (r : Nat) (c : Clm) : c ∈ l ↔ c ∈ rotF l r := by
  unfold rotF
  rw [List.mem_append, Or.comm, ← List.mem_append, List.take_append_drop]
theorem rot_len (l : List Clm) (r : Nat) : (rotF l r).length = l.length := by
  unfold rotF
  rw [List.length_append, Nat.add_comm, ← List.length_append, List.take_append_drop]
theorem rot_get {l : List Clm} {r i : Nat} (hr : r < l.length) (hi : i < l.length) : (rotF l r)[i]? = l[(i + r) % l.length]? := by
  unfold rotF
  by_cases h : i < l.length - r
  · rw [List.getElem?_append_left (by simpa using h), List.getElem?_drop, Nat.mod_eq_of_lt (by omega), Nat.add_comm]
  · rw [List.getElem?_append_right (by simp; omega), List.length_drop, List.getElem?_take, if_pos (by omega)]
    congr 1
    rw [Nat.mod_eq_sub_mod (by omega), Nat.mod_eq_of_lt (by omega)]
    omega
theorem rot_take {l : List Clm} {r i : Nat} (hr : r < l.length) (hi : i < l.length) (hq : (i + r) % l.length < l.length) : (rotF l r).take (i + 1) = (rotF l r).take i ++ [l[(i + r) % l.length]'hq] := by
  rw [List.take_add_one, rot_get hr hi, List.getElem?_eq_getElem hq]; rfl
theorem ix_place {v : Int} : ∀ {M : List Int} {i : Nat}, v ∈ M → ixP (· == v) i M = ((i + placeF M v : Nat) : Int)
  | [], _, h => absurd h List.not_mem_nil
  | a :: M, i, h => by
    unfold ixP placeF
    rw [List.idxOf_cons]
    by_cases e : a = v
    · subst e; simp
    · have e' : (a == v) = false := by simpa using e
      have hv : v ∈ M := by
        rcases List.mem_cons.1 h with h | h
        · exact absurd h.symm e
        · exact h
      have := ix_place (i := i + 1) hv
      unfold placeF at this
      simp only [e', Bool.false_eq_true, if_false, cond_false]
      rw [this]
      congr 1
      omega
theorem with_c_run (l : List Clm) (c : Clm) (hl : (l.length + 1) * 40 ≤ 140737488355328) {n : Nat} (hn : 1 ≤ n) : pureCall (rc pg n) 29 [clsD l, clD c] = some (.ret (clsD (l ++ [c]))) := by
  obtain ⟨m, rfl, e⟩ := body (pg := pg) (f := 29) (args := [clsD l, clD c]) (show 0 < n by omega) rfl rfl
  rw [e]
  have h2 := cls_cells l
  have h3 := cls_one l
  have hall : (l.map clD).all (fun e => e.cells.length == 5) = true := by simp [clD, clC, D.cells]
  by_cases h0 : l = []
  · subst h0
    have z1 := fun t hh news k ty cs => appS_zero5 (t := t) (h := hh) (m := 1) (news := news) (k := k) (ty := ty) (cs := cs) (by omega) (by unfold room; omega) (by unfold maxLen; omega)
    simp [k29, Env.v_ini, clsD, clD, clC, D.cells, D.one, zerosD, apK_some, apK_zero_slr, z1, List.range_succ]
    rfl
  · have hlen : l.length ≠ 0 := fun h => h0 (List.eq_nil_of_length_eq_zero h)
    have z := fun t hh news k ty cs => appS_zero5 (t := t) (h := hh) (m := l.length) (news := news) (k := k) (ty := ty) (cs := cs) (by omega) (by unfold room; omega) (by unfold maxLen; omega)
    have z2 := fun t hh news k => appS_none (t := t) (et := 27) (sz := 5) (bytes := 40) (h := hh) (m := 1) (news := news) (k := k) (n := l.length) (cs := l.flatMap clC) (cells_len l) (by omega) (by unfold room; omega) (by unfold maxLen; omega)
    simp [k29, Env.v_ini, clsD, clD, clC, D.cells, D.one, zerosD, apK_some, z, z2, hall, h2, h3, hlen, List.range_succ]
    have hs : (List.map (fun _ : Clm => 5) l).sum = l.length * 5 := by rw [List.map_const', List.sum_replicate_nat]
    have hcat : l.flatMap clC ++ [D.int c.a, D.int c.b, D.int c.lo, D.int c.hi, D.int c.by_] = (l ++ [c]).flatMap clC := by simp [clC]
    have htk : ((l ++ [c]).flatMap clC).take ((l.length + 1) * 5) = (l ++ [c]).flatMap clC := List.take_of_length_le (by rw [cells_len]; simp)
    have hch := cells_chunk (l ++ [c]) (l.length + 1) (by simp)
    rw [hcat, htk]
    refine ⟨by omega, _, _, _, each_canon _ 22 _ (cells_canon (l ++ [c])), ?_, rfl⟩
    rw [hch]; simp [clD, clC]
end Go.Proofs.YtjgafgkkpofgbaaDoor
