/- How many years sets have: they add up. -/
import Derived.Test.YtlddgfkdicgbeaaGreatDoorRr
namespace Go.Proofs.YtlddgfkdicgbeaaGreatDoor
open Go Go.Em
set_option maxRecDepth 100000
theorem combF_len (kept : Bool → Bool → Bool) : ∀ (t : List EE) (fr f s : Int) (L : List Rn), (Runs.combF kept t fr f s L).length ≤ L.length + t.length
  | [], _, _, _, L => Nat.le_refl _
  | x :: t, fr, f, s, L => by
    rw [combF_cons]
    refine Nat.le_trans (combF_len kept t _ _ _ _) ?_
    rw [List.length_cons]
    split
    · have := longR_len L (fr, x.y - 1); omega
    · omega
open Classical in
theorem len_of {kept : Bool → Bool → Bool} (k0 : kept false false = false) {a b T : List Rn} (ha : a.length ≤ 2000000) (hb : b.length ≤ 2000000) (hT : Runs.NF T) (hTm : ∀ y, Runs.inL T y ↔ kept (decide (Runs.inC a y)) (decide (Runs.inC b y)) = true) : T.length ≤ (a.length + b.length) * 2 := by
  obtain ⟨E, hp, ho, _⟩ := ends_run a b ha hb (n := 8000001 * (3 * 8000000 + 201) + 100) (Nat.le_refl _)
  obtain ⟨c1, c2⟩ := Runs.combL_ok kept k0 hp ho
  have hTE : Runs.combL kept E = T := Runs.nf_ext c1 hT fun y => (c2 y).trans (hTm y).symm
  have h1 := combF_len kept E (-1000000000) 0 0 []
  have h2 := endsL_len a b
  have h3 : E.length = (Runs.endsL a b).length := hp.length_eq
  rw [← hTE]
  refine Nat.le_trans h1 ?_
  simp only [List.length_nil]; omega
open Classical in
noncomputable def cnt (P : Int → Prop) : Nat → Int
  | 0 => 0
  | n + 1 => cnt P n + (if P (-1000000000 + (n : Int)) then 1 else 0)
open Classical in
theorem cnt_add (P Q U C : Int → Prop) (hU : ∀ y, U y ↔ P y ∨ Q y) (hC : ∀ y, C y ↔ P y ∧ Q y) : ∀ n, cnt U n + cnt C n = cnt P n + cnt Q n
  | 0 => rfl
  | n + 1 => by
    have ih := cnt_add P Q U C hU hC n
    simp only [cnt, hU, hC]
    by_cases h1 : P (-1000000000 + (n : Int)) <;> by_cases h2 : Q (-1000000000 + (n : Int)) <;> simp [h1, h2] <;> omega
open Classical in
theorem cnt_run {r : Rn} (h : Runs.okR r) : ∀ n : Nat, cnt (Runs.inR r) n = if (n : Int) ≤ r.1 + 1000000000 then 0 else if (n : Int) ≤ r.2 + 1000000001 then n - (r.1 + 1000000000) else r.2 - r.1 + 1
  | 0 => by
    obtain ⟨h1, h2, h3⟩ := h
    have hF : Runs.FAR = 1000000000 := rfl
    rw [cnt, if_pos (by omega)]
  | n + 1 => by
    have ih := cnt_run h n
    obtain ⟨h1, h2, h3⟩ := h
    have hF : Runs.FAR = 1000000000 := rfl
    rw [cnt, ih]
    by_cases hin : Runs.inR r (-1000000000 + (n : Int))
    · rw [if_pos hin]
      obtain ⟨i1, i2⟩ := hin
      repeat' split
      all_goals omega
    · rw [if_neg hin]
      have hin' : ¬ (r.1 ≤ -1000000000 + (n : Int) ∧ -1000000000 + (n : Int) ≤ r.2) := hin
      repeat' split
      all_goals omega
def sumR : List Rn → Int
  | [] => 0
  | r :: T => (r.2 - r.1 + 1) + sumR T
theorem cnt_false (P : Int → Prop) (h : ∀ y, ¬ P y) : ∀ n, cnt P n = 0
  | 0 => rfl
  | n + 1 => by simp only [cnt, cnt_false P h n]; rw [if_neg (h _)]; rfl
theorem cnt_sum : ∀ {T : List Rn}, Runs.NF T → cnt (Runs.inL T) 2000000001 = sumR T
  | [], _ => cnt_false _ (fun _ => Runs.inL_nil) _
  | r :: T, hn => by
    obtain ⟨ho, hn', hp⟩ := Runs.nf_cons.1 hn
    have h1 := cnt_add (Runs.inR r) (Runs.inL T) (Runs.inL (r :: T)) (fun _ => False) (fun y => Runs.inL_cons) (fun y => ⟨fun h => h.elim, fun ⟨h1, s, hs, h2, _⟩ => by have := hp s hs; have := h1.2; omega⟩) 2000000001
    have h0 := cnt_false (fun _ => False) (fun _ h => h) 2000000001
    have h2 := cnt_run ho 2000000001
    obtain ⟨o1, o2, o3⟩ := ho
    have hF : Runs.FAR = 1000000000 := rfl
    rw [if_neg (by omega)] at h2
    have h3 : cnt (Runs.inR r) 2000000001 = r.2 - r.1 + 1 := by
      rw [h2]; split <;> omega
    have h4 := cnt_sum hn'
    rw [sumR, ← h4, ← h3]
    omega
theorem szG_sum : ∀ (T : List Rn) (acc : Int), (∀ r, r ∈ T → farR r = false) → szG T acc = (acc + sumR T, 0)
  | [], acc, _ => by rw [szG, sumR]; simp
  | r :: T, acc, h => by
    rw [szG, if_neg (by rw [h r List.mem_cons_self]; simp), szG_sum T _ (fun s hs => h s (List.mem_cons_of_mem _ hs)), sumR, Int.add_assoc]
theorem szG_far : ∀ (T : List Rn) (acc : Int), (∃ r, r ∈ T ∧ farR r = true) → szG T acc = (0, 5)
  | [], _, ⟨_, h, _⟩ => by simp at h
  | r :: T, acc, ⟨s, hs, hf⟩ => by
    rw [szG]
    by_cases h : farR r = true
    · rw [if_pos h]
    · rw [if_neg h]
      rcases List.mem_cons.1 hs with rfl | hs
      · exact absurd hf h
      · exact szG_far T _ ⟨s, hs, hf⟩
theorem far_iff {T : List Rn} (hn : Runs.NF T) : (∀ r, r ∈ T → farR r = false) ↔ ¬ Runs.inL T (-1000000000) ∧ ¬ Runs.inL T 1000000000 := by
  have hF : Runs.FAR = 1000000000 := rfl
  constructor
  · intro h
    refine ⟨fun ⟨r, hr, h1, h2⟩ => ?_, fun ⟨r, hr, h1, h2⟩ => ?_⟩
    · have hf := h r hr
      obtain ⟨o1, _, _⟩ := hn.1 r hr
      have : r.1 = -1000000000 := by omega
      unfold farR at hf; simp [this] at hf
    · have hf := h r hr
      obtain ⟨_, _, o3⟩ := hn.1 r hr
      have : r.2 = 1000000000 := by omega
      unfold farR at hf; simp [this] at hf
  · rintro ⟨h1, h2⟩ r hr
    have ho := hn.1 r hr
    unfold farR
    have a1 : r.1 ≠ -1000000000 := fun he => h1 ⟨r, hr, by show r.1 ≤ _; omega, by have := ho.2.1; show _ ≤ r.2; omega⟩
    have a2 : r.2 ≠ 1000000000 := fun he => h2 ⟨r, hr, by have := ho.2.1; show r.1 ≤ _; omega, by show _ ≤ r.2; omega⟩
    simp [a1, a2]
theorem sum_nn {T : List Rn} (hn : Runs.NF T) : 0 ≤ sumR T ∧ sumR T ≤ 2000000001 := by
  have : ∀ (P : Int → Prop) (n : Nat), 0 ≤ cnt P n ∧ cnt P n ≤ n := by
    intro P n
    induction n with
    | zero => exact ⟨Int.le_refl _, Int.le_refl _⟩
    | succ n ih => simp only [cnt]; split <;> omega
  rw [← cnt_sum hn]
  have := this (Runs.inL T) 2000000001
  omega
end Go.Proofs.YtlddgfkdicgbeaaGreatDoor
/- The law of the algebra of sets. -/
namespace Go.Proofs.YtlddgfkdicgbeaaGreatDoor
open Go Go.Em
set_option maxRecDepth 100000
theorem hasB_nf {T : List Rn} (hn : Runs.NF T) (y : Int) : hasB T y = true ↔ Runs.inL T y := by rw [hasB_iff, Runs.inC_nf hn]
theorem has_union (a b : List Rn) (y : Int) : hasB (Runs.runion a b) y = (hasB a y || hasB b y) := by
  obtain ⟨h1, h2⟩ := Runs.runion_ok a b
  rw [Bool.eq_iff_iff, hasB_nf h1, h2, Bool.or_eq_true, hasB_iff, hasB_iff]
theorem has_common (a b : List Rn) (y : Int) : hasB (Runs.rcommon a b) y = (hasB a y && hasB b y) := by
  obtain ⟨h1, h2⟩ := Runs.rcommon_ok a b
  rw [Bool.eq_iff_iff, hasB_nf h1, h2, Bool.and_eq_true, hasB_iff, hasB_iff]
theorem has_less (a b : List Rn) (y : Int) : hasB (Runs.rless a b) y = (hasB a y && !hasB b y) := by
  obtain ⟨h1, h2⟩ := Runs.rless_ok a b
  rw [Bool.eq_iff_iff, hasB_nf h1, h2, Bool.and_eq_true, hasB_iff]
  have : (!hasB b y) = true ↔ ¬ Runs.inC b y := by rw [← hasB_iff]; simp
  rw [this]
theorem back_eq (a b : List Rn) : Runs.runion (Runs.rless a b) (Runs.rcommon a b) = Runs.rnorm a := by
  obtain ⟨h1, h2⟩ := Runs.runion_ok (Runs.rless a b) (Runs.rcommon a b)
  obtain ⟨l1, l2⟩ := Runs.rless_ok a b
  obtain ⟨c1, c2⟩ := Runs.rcommon_ok a b
  refine Runs.nf_ext h1 (Runs.rnorm_ok a).1 fun y => ?_
  rw [h2, Runs.inC_nf l1, Runs.inC_nf c1, l2, c2, (Runs.rnorm_ok a).2]
  by_cases h : Runs.inC b y
  · exact ⟨fun h => h.elim (·.1) (·.1), fun ha => .inr ⟨ha, h⟩⟩
  · exact ⟨fun h => h.elim (·.1) (·.1), fun ha => .inl ⟨ha, h⟩⟩
theorem none_eq (a b : List Rn) : Runs.rcommon (Runs.rless a b) b = [] := by
  obtain ⟨h1, h2⟩ := Runs.rcommon_ok (Runs.rless a b) b
  obtain ⟨l1, l2⟩ := Runs.rless_ok a b
  refine Runs.nf_ext h1 Runs.nf_nil fun y => ?_
  rw [h2, Runs.inC_nf l1, l2]
  exact ⟨fun ⟨⟨_, h3⟩, h4⟩ => absurd h4 h3, fun h => absurd h Runs.inL_nil⟩
theorem same_call2 {A B : List Rn} {d1 d2 : D} {h : Heap} (g1 : AR h d1 A) (g2 : AR h d2 B) (hf : h.Fr) (hl : A.length ≤ 2000000000) {n : Nat} (hn : A.length + 10 ≤ n) : ∃ h', call pg (rc pg n) 9 [d1, d2] h = some (.ret (D.bool (decide (A = B))), h') ∧ h'.Fr := by
  have x := same_run A B hl hn
  obtain ⟨ks, h1, h2⟩ := ArgR_of g1 g2 h (Heap.Gr.refl h)
  obtain ⟨h', c, _, f, _⟩ := call_frz2 (pg := pg) (f := 9) rfl h1 x hf (B := h.next) (Nat.le_refl _) h2
  exact ⟨h', c, f⟩
set_option maxHeartbeats 32000000 in
theorem algebra_law (a b : List Rn) (hab : a.length + b.length ≤ 400000) (y : Int) {n : Nat} (hn1 : bigN + 200 ≤ n) (hn : 2020001000 ≤ n) : pureCall (rc pg n) 5 [rnsD a, rnsD b, D.int y] = some (.ret (D.bool true)) := by
  obtain ⟨m, rfl, e⟩ := body (pg := pg) (f := 5) (args := [rnsD a, rnsD b, D.int y]) (show 0 < n by omega) rfl rfl
  rw [e]
  have ha : a.length ≤ 2000000 := by omega
  have hb : b.length ≤ 2000000 := by omega
  obtain ⟨u1, u2⟩ := Runs.runion_ok a b
  obtain ⟨c1, c2⟩ := Runs.rcommon_ok a b
  obtain ⟨l1, l2⟩ := Runs.rless_ok a b
  have lu := len_of (kept := fun x y => x || y) rfl ha hb u1 (fun y => by rw [u2]; simp)
  have lc := len_of (kept := fun x y => x && y) rfl ha hb c1 (fun y => by rw [c2]; simp)
  have ll := len_of (kept := fun x y => x && !y) rfl ha hb l1 (fun y => by rw [l2]; simp)
  have hu := has_union a b y
  have hc := has_common a b y
  have hl := has_less a b y
  have nu := (rnorm_self (l := Runs.runion a b)).2 u1
  have nc := (rnorm_self (l := Runs.rcommon a b)).2 c1
  have hbk := back_eq a b
  have hno := none_eq a b
  have k12 := fun h => call_of (h := h) (pg := pg) (f := 12) rfl (rns_can2 a b) (union_run ha hb (n := m) (by omega))
  have k14 := fun h => call_of (h := h) (pg := pg) (f := 14) rfl (rns_can2 a b) (common_run ha hb (n := m) (by omega))
  have k16 := fun h => call_of (h := h) (pg := pg) (f := 16) rfl (rns_can2 a b) (less_run ha hb (n := m) (by omega))
  have hy : ∀ T : List Rn, T.length ≤ 2000000 → ∀ h, call pg (rc pg m) 21 [rnsD T, D.int y] h = some (.ret (D.bool (hasB T y)), h) := fun T hT h => call_of (pg := pg) (f := 21) rfl (by have := rn_can T; simp [rnsD, this]) (has_run T (by omega) y (n := m) (by omega))
  have ya := hy a ha
  have yb := hy b hb
  have yu := hy _ (show (Runs.runion a b).length ≤ 2000000 by omega)
  have yc := hy _ (show (Runs.rcommon a b).length ≤ 2000000 by omega)
  have yl := hy _ (show (Runs.rless a b).length ≤ 2000000 by omega)
  rw [hu] at yu
  rw [hc] at yc
  rw [hl] at yl
  have sz : ∀ T : List Rn, T.length ≤ 2000000 → ∀ h, call pg (rc pg m) 19 [rnsD T] h = some (.ret (.tup [D.int (szG (Runs.rnorm T) 0).1, D.int (szG (Runs.rnorm T) 0).2]), h) := fun T hT h => call_of (pg := pg) (f := 19) rfl (rns_can T) (size_run T hT (n := m) (by omega))
  have za := sz a ha
  have zb := sz b hb
  have zu := sz _ (show (Runs.runion a b).length ≤ 2000000 by omega)
  have zc := sz _ (show (Runs.rcommon a b).length ≤ 2000000 by omega)
  rw [← nu] at zu
  rw [← nc] at zc
  have kb := fun h => call_of (h := h) (pg := pg) (f := 12) rfl (rns_can2 (Runs.rless a b) (Runs.rcommon a b)) (union_run (a := Runs.rless a b) (b := Runs.rcommon a b) (by omega) (by omega) (n := m) (by omega))
  rw [hbk] at kb
  have kn := fun h => call_of (h := h) (pg := pg) (f := 14) rfl (rns_can2 (Runs.rless a b) b) (common_run (a := Runs.rless a b) (b := b) (by omega) hb (n := m) (by omega))
  rw [hno] at kn
  have hs := fun h => sane_call (n := m) (by omega) h
  obtain ⟨H, hH⟩ : ∃ H, H = (((((((Heap.empty.bump 130).bump 130).bump 130).bump 130).bump 130).bump 130).bump 130).bump 130 := ⟨_, rfl⟩
  have hHf : H.Fr := by rw [hH]; repeat' first | exact Heap.Fr.empty | apply Heap.Fr.bump
  obtain ⟨d, h', cn, g1, g2, g3⟩ := norm_sh (a := Runs.runion a b) (by omega) (.inl rfl : AR H (rnsD (Runs.runion a b)) _) hHf (n := m) (by omega)
  rw [← nu] at g1
  have n1 := call_sh (pg := pg) (f := 10) rfl cn
  obtain ⟨h2, e1, f2⟩ := same_call2 (A := Runs.runion a b) (B := Runs.runion a b) (.inr g1) (.inl rfl) g2 (by omega) (n := m) (by omega)
  rw [decide_eq_true rfl] at e1
  obtain ⟨d', h3, cn', q1, q2, q3⟩ := norm_sh (a := a) ha (.inl rfl : AR h2 (rnsD a) _) f2 (n := m) (by omega)
  have n2 := call_sh (pg := pg) (f := 10) rfl cn'
  have lna := rnorm_len a
  obtain ⟨h4, e2, f4⟩ := same_call2 (A := Runs.rnorm a) (B := Runs.rnorm a) (.inl rfl) (.inr q1) q2 (by omega) (n := m) (by omega)
  rw [decide_eq_true rfl] at e2
  simp only [rnsD, List.map_nil] at k12 k14 k16 ya yb yu yc yl za zb zu zc kb kn n1 e1 n2 e2
  obtain ⟨pa, hpa⟩ : ∃ pa, pa = hasB a y := ⟨_, rfl⟩
  obtain ⟨pb, hpb⟩ : ∃ pb, pb = hasB b y := ⟨_, rfl⟩
  rw [← hpa] at ya yu yc yl
  rw [← hpb] at yb yu yc yl
  have hsz : szG (Runs.rnorm a) 0 = (0, 5) ∨ szG (Runs.rnorm b) 0 = (0, 5) ∨ (∃ s t p q : Int, szG (Runs.rnorm a) 0 = (s, 0) ∧ szG (Runs.rnorm b) 0 = (t, 0) ∧ szG (Runs.runion a b) 0 = (p, 0) ∧ szG (Runs.rcommon a b) 0 = (q, 0) ∧ p + q = s + t ∧ 0 ≤ s ∧ s ≤ 2000000001 ∧ 0 ≤ t ∧ t ≤ 2000000001) := by
    obtain ⟨na1, na2⟩ := Runs.rnorm_ok a
    obtain ⟨nb1, nb2⟩ := Runs.rnorm_ok b
    have fl : ∀ T : List Rn, (∀ r, r ∈ T → farR r = false) ∨ ∃ r, r ∈ T ∧ farR r = true := fun T => by
      by_cases h : ∃ r, r ∈ T ∧ farR r = true
      · exact .inr h
      · refine .inl fun r hr => ?_
        cases hf : farR r with
        | false => rfl
        | true => exact absurd ⟨r, hr, hf⟩ h
    rcases fl (Runs.rnorm a) with fa | fa
    · rcases fl (Runs.rnorm b) with fb | fb
      · obtain ⟨x1, x2⟩ := (far_iff na1).1 fa
        obtain ⟨x3, x4⟩ := (far_iff nb1).1 fb
        rw [na2] at x1 x2
        rw [nb2] at x3 x4
        have fu := (far_iff u1).2 ⟨fun h => ((u2 _).1 h).elim x1 x3, fun h => ((u2 _).1 h).elim x2 x4⟩
        have fc := (far_iff c1).2 ⟨fun h => x1 ((c2 _).1 h).1, fun h => x2 ((c2 _).1 h).1⟩
        have hadd := cnt_add (Runs.inL (Runs.rnorm a)) (Runs.inL (Runs.rnorm b)) (Runs.inL (Runs.runion a b)) (Runs.inL (Runs.rcommon a b)) (fun y => by rw [u2, na2, nb2]) (fun y => by rw [c2, na2, nb2]) 2000000001
        rw [cnt_sum u1, cnt_sum c1, cnt_sum na1, cnt_sum nb1] at hadd
        obtain ⟨b1, b2⟩ := sum_nn na1
        obtain ⟨b3, b4⟩ := sum_nn nb1
        refine .inr (.inr ⟨_, _, _, _, szG_sum _ 0 fa, szG_sum _ 0 fb, szG_sum _ 0 fu, szG_sum _ 0 fc, by omega, by omega, by omega, by omega, by omega⟩)
      · exact .inr (.inl (szG_far _ 0 fb))
    · exact .inl (szG_far _ 0 fa)
  rcases hsz with hz | hz | ⟨s, t, p, q, hs1, hs2, hs3, hs4, hpq, b1, b2, b3, b4⟩
  · rw [hz] at za
    cases pa <;> cases pb <;> simp [k5, Env.v_ini, rnsD, k12, k14, k16, ya, yb, yu, yc, yl, ← hH, n1, e1, kb, n2, e2, kn, za, zb, hs]
  · rw [hz] at zb
    cases hza : ((szG (Runs.rnorm a) 0).2 != 0) with
    | true => cases pa <;> cases pb <;> simp [-bne_iff_ne, k5, Env.v_ini, rnsD, k12, k14, k16, ya, yb, yu, yc, yl, ← hH, n1, e1, kb, n2, e2, kn, za, zb, hza, hs]
    | false => cases pa <;> cases pb <;> simp [-bne_iff_ne, -bne_eq_false_iff_eq, k5, Env.v_ini, rnsD, k12, k14, k16, ya, yb, yu, yc, yl, ← hH, n1, e1, kb, n2, e2, kn, za, zb, hza, hs]
  · rw [hs1] at za
    rw [hs2] at zb
    rw [hs3] at zu
    rw [hs4] at zc
    have w1 : IntKind.i64.wrap (p + q) = p + q := wrap_i64 (by omega) (by omega)
    have w2 : IntKind.i64.wrap (s + t) = s + t := wrap_i64 (by omega) (by omega)
    cases pa <;> cases pb <;> simp [k5, Env.v_ini, rnsD, k12, k14, k16, ya, yb, yu, yc, yl, ← hH, n1, e1, kb, n2, e2, kn, za, zb, zu, zc, w2, hpq, hs]
end Go.Proofs.YtlddgfkdicgbeaaGreatDoor
