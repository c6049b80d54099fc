/- Moves of which one may be far: their numbers stay small, too. -/
import Derived.Test.YtfemldhlanoakaaGreatDoorEnc4
import Derived.Test.YtfemldhlanoakaaGreatDoorPl
import Derived.Test.YtfemldhlanoakaaGreatDoorEmNet
namespace Go.Proofs.YtfemldhlanoakaaGreatDoor
open Go Go.Em Go.Em.Net
set_option maxRecDepth 100000
theorem low_encW {N : Mx} (h : Bt N) {m : Mo} (h1 : -6500000 ≤ m.mo) (h2 : m.mo ≤ 6500000) : lowI (encM N) m = encM (lowM N m) ∧ Bt (lowM N m) := by
  constructor
  · funext a b
    unfold lowI updA encM lowM setM
    split
    · unfold lowV
      cases e : N m.fr m.to_ with
      | none => simp [enc]; omega
      | some z => simp [enc]
    · rfl
  · intro a b z hz
    unfold lowM setM at hz
    split at hz
    · unfold lowV at hz
      split at hz
      · have := Option.some.inj hz; omega
      · rename_i y hy
        have := Option.some.inj hz
        have := h _ _ y hy
        omega
    · exact h a b z hz
theorem init_encW : ∀ (l : List Mo) (N : Mx), Bt N → (∀ m ∈ l, -6500000 ≤ m.mo ∧ m.mo ≤ 6500000) → l.foldl lowI (encM N) = encM (l.foldl lowM N)
  | [], _, _, _ => rfl
  | m :: l, N, h, hl => by
    obtain ⟨h1, h2⟩ := hl m List.mem_cons_self
    obtain ⟨e, b⟩ := low_encW h h1 h2
    rw [List.foldl_cons, List.foldl_cons, e]
    exact init_encW l _ b fun x hx => hl x (List.mem_cons_of_mem _ hx)
theorem initI_encW (n : Nat) (l : List Mo) (hl : ∀ m ∈ l, -6500000 ≤ m.mo ∧ m.mo ≤ 6500000) : initI n l = encM (EF n l) := by
  have h0 : farN n = encM (E0 n) := by
    funext a b
    unfold farN encM E0 enc
    split <;> rfl
  unfold initI EF
  rw [h0]
  exact init_encW l _ (fun a b z hz => by
    unfold E0 at hz
    split at hz
    · have := Option.some.inj hz; omega
    · cases hz) hl
structure GoodW (n : Nat) (l : List Mo) : Prop where
  hin : ∀ m ∈ l, m.fr < n ∧ m.to_ < n ∧ m.fr ≠ m.to_
  bd : ∀ m ∈ l, -6500000 ≤ m.mo ∧ m.mo ≤ 6500000
  sym : ∀ m ∈ l, ∃ m' ∈ l, m'.fr = m.to_ ∧ m'.to_ = m.fr
  wt : ∃ W : Nat → Int, (∀ i, 0 ≤ W i) ∧ (∀ m ∈ l, m.mo ≤ W m.fr) ∧ ∀ i, W i + wsum W n ≤ 19400000
theorem Good.w {n : Nat} {l : List Mo} (g : Good n l) (hn : n ≤ 64) : GoodW n l := by
  refine ⟨g.hin, fun m hm => by have := g.bd m hm; omega, g.sym, fun v => if v = 0 then 100000 else 100000, fun i => (by show (0 : Int) ≤ if i = 0 then 100000 else 100000; split <;> omega), fun m hm => ?_, fun i => ?_⟩
  · have := (g.bd m hm).2
    show m.mo ≤ if m.fr = 0 then 100000 else 100000
    split <;> omega
  · have h1 := wsum_one 0 100000 100000 (by omega) (by omega) n
    have h2 : (if i = 0 then (100000 : Int) else 100000) = 100000 := by split <;> rfl
    show (if i = 0 then (100000 : Int) else 100000) + wsum (fun v => if v = 0 then 100000 else 100000) n ≤ 19400000
    omega
theorem GoodW.symE {n : Nat} {l : List Mo} (g : GoodW n l) (i j : Nat) (h : EF n l i j ≠ none) : EF n l j i ≠ none := by
  have k := kn_EF g.hin
  obtain ⟨c, hc⟩ := Option.ne_none_iff_exists'.1 h
  rcases k.he i j c hc with ⟨rfl, _⟩ | hm
  · exact h
  · obtain ⟨m, hm1, hm2⟩ := List.mem_map.1 hm
    obtain ⟨m', h1, h2, h3⟩ := g.sym m hm1
    obtain ⟨c', hc', _⟩ := k.hm (m'.fr, m'.to_, m'.mo) (List.mem_map.2 ⟨m', h1, rfl⟩)
    have e1 : m.fr = i := by rw [← (Prod.mk.inj hm2).1]
    have e2 : m.to_ = j := by rw [← (Prod.mk.inj (Prod.mk.inj hm2).2).1]
    simp only [h2, h3, e1, e2] at hc'
    rw [hc']; simp
theorem GoodW.bounds {n : Nat} {l : List Mo} (g : GoodW n l) {k : Nat} (hk : k ≤ n) (hd : ∀ q, q ≤ k → ∀ i, i < n → fw (EF n l) q i i = some 0) {a b : Nat} {z : Int} (hz : fw (EF n l) k a b = some z) : -38800000 ≤ z ∧ z ≤ 19400000 := by
  have kn := kn_EF g.hin
  obtain ⟨W, w1, w2, w3⟩ := g.wt
  have hB : ∀ i j c, EF n l i j = some c → c ≤ W i ∧ -19400000 ≤ c := by
    intro i j c hc
    rcases kn.he i j c hc with ⟨_, rfl⟩ | hm
    · exact ⟨w1 i, by omega⟩
    · obtain ⟨m, hm1, hm2⟩ := List.mem_map.1 hm
      have h1 := g.bd m hm1
      have h2 := w2 m hm1
      have e : m.mo = c := (Prod.mk.inj (Prod.mk.inj hm2).2).2
      have e1 : m.fr = i := (Prod.mk.inj hm2).1
      rw [e, e1] at h2
      rw [e] at h1
      exact ⟨h2, by omega⟩
  have := fw_boundsW (T := 19400000) w1 (fun i j c h => (hB i j c h).1) (fun i j c h => (hB i j c h).2) g.symE kn.out w3 k hk hd hz
  omega
theorem GoodW.calm {n : Nat} {l : List Mo} (g : GoodW n l) (hd : ∀ k, k ≤ n → ∀ i, i < n → fw (EF n l) k i i = some 0) : ∀ k, k ≤ n → Bt (fw (EF n l) k) := by
  intro q hq a b z hz
  have := g.bounds hq (fun l hl i hi => hd l (by omega) i hi) hz
  omega
theorem GoodW.half {n : Nat} {l : List Mo} (g : GoodW n l) {k : Nat} (hk : k < n) (hd : ∀ q, q ≤ k → ∀ i, i < n → fw (EF n l) q i i = some 0) : Bt (fw (EF n l) k) ∧ Bt (fw (EF n l) (k + 1)) := by
  have hb : ∀ {a b : Nat} {z : Int}, fw (EF n l) k a b = some z → -38800000 ≤ z ∧ z ≤ 19400000 := fun hz => g.bounds (by omega) hd hz
  refine ⟨fun a b z hz => by have := hb hz; omega, fun a b z hz => ?_⟩
  rcases comb_or hz with e | ⟨x, y, e1, e2, rfl⟩
  · have := hb e; omega
  · have := hb e1; have := hb e2; omega
theorem GoodW.con {M : List Int} {l : List Mo} (g : GoodW M.length l) : conF M l = false ↔ ∀ k, k ≤ M.length → ∀ i, i < M.length → fw (EF M.length l) k i i = some 0 := by
  have k := kn_EF g.hin
  have hin : ∀ m ∈ mvs l, m.1 < M.length ∧ m.2.1 < M.length := fun m hm => by
    obtain ⟨x, hx, rfl⟩ := List.mem_map.1 hm
    exact ⟨(g.hin x hx).1, (g.hin x hx).2.1⟩
  constructor
  · intro h q _ i hi
    unfold conF at h
    rw [decide_eq_true (show 0 < M.length by omega), Bool.true_and] at h
    exact diag_of_rest k.diag k.he h q hi
  · intro hd
    unfold conF
    by_cases h0 : 0 < M.length
    · have hr : allChg (mvs l) M.length z0 = false := rest_of_diag hin k.he k.hm h0 hd
      rw [hr, Bool.and_false]
    · rw [decide_eq_false h0, Bool.false_and]
/-- Claims of which the evaluator's closure can be told, valid or not. -/
structure OkW (l : List Clm) : Prop where
  len : l.length ≤ 401
  n64 : (marksF l).length ≤ 64
  good : GoodW (marksF l).length (movsF (marksF l) 0 l)
  lo : ∀ c, c ∈ l → -100000000000 ≤ c.lo ∧ c.lo ≤ 100000000000
theorem okw {l : List Clm} (h0 : chkF l = 0) : OkW l := by
  obtain ⟨h1, h2, h3⟩ := chk_ok h0
  exact ⟨by omega, h3, (good_movs h0).w h3, fun c hc => by have := ok_years (h2 c hc); omega⟩
theorem badw_iff {l : List Clm} (h0 : OkW l) : badF l = false ↔ ∀ k, k ≤ (marksF l).length → ∀ i, i < (marksF l).length → fw (netF l) k i i = some 0 := h0.good.con
theorem cloww_clsd {l : List Clm} (h0 : OkW l) (hb : badF l = false) : Clsd (marksF l).length (cloF l) := by
  have hd := (badw_iff h0).1 hb
  refine ⟨fun i hi => hd _ (Nat.le_refl _) i hi, fun hl ha hb' => fw_closed _ (fun q hq => hd q (by omega) q hq) hl ha hb', fun h => fw_sym h0.good.symE _ h⟩
theorem cloww_out {l : List Clm} (h0 : OkW l) : Out (marksF l).length (cloF l) := Out.fw (kn_EF h0.good.hin).out _ (Nat.le_refl _)
theorem cloww_small {l : List Clm} (h0 : OkW l) (hb : badF l = false) : Bt (cloF l) := h0.good.calm ((badw_iff h0).1 hb) _ (Nat.le_refl _)
end Go.Proofs.YtfemldhlanoakaaGreatDoor
