/- Sets of years as runs in normal form: the mathematics, without the evaluator. -/
import Derived.Test.YtlddgfkdicgbeaaGreatDoorEmA
namespace Go.Em.Runs
set_option maxRecDepth 100000
abbrev Rn := Int × Int
abbrev FAR : Int := 1000000000
def inR (r : Rn) (y : Int) : Prop := r.1 ≤ y ∧ y ≤ r.2
def inL (l : List Rn) (y : Int) : Prop := ∃ r, r ∈ l ∧ inR r y
def okR (r : Rn) : Prop := -FAR ≤ r.1 ∧ r.1 ≤ r.2 ∧ r.2 ≤ FAR
def NF (l : List Rn) : Prop := (∀ r, r ∈ l → okR r) ∧ l.Pairwise (fun r s => r.2 + 2 ≤ s.1)
instance (r : Rn) (y : Int) : Decidable (inR r y) := inferInstanceAs (Decidable (_ ∧ _))
theorem inL_nil {y : Int} : ¬ inL [] y := fun ⟨_, h, _⟩ => by simp at h
theorem inL_cons {r : Rn} {l : List Rn} {y : Int} : inL (r :: l) y ↔ inR r y ∨ inL l y := by
  constructor
  · rintro ⟨s, h, hy⟩
    rcases List.mem_cons.1 h with rfl | h
    · exact .inl hy
    · exact .inr ⟨s, h, hy⟩
  · rintro (h | ⟨s, h, hy⟩)
    · exact ⟨r, List.mem_cons_self, h⟩
    · exact ⟨s, List.mem_cons_of_mem _ h, hy⟩
theorem inL_append {l m : List Rn} {y : Int} : inL (l ++ m) y ↔ inL l y ∨ inL m y := by
  constructor
  · rintro ⟨s, h, hy⟩
    rcases List.mem_append.1 h with h | h
    · exact .inl ⟨s, h, hy⟩
    · exact .inr ⟨s, h, hy⟩
  · rintro (⟨s, h, hy⟩ | ⟨s, h, hy⟩)
    · exact ⟨s, List.mem_append_left _ h, hy⟩
    · exact ⟨s, List.mem_append_right _ h, hy⟩
theorem inL_one {r : Rn} {y : Int} : inL [r] y ↔ inR r y := by
  rw [inL_cons]; exact ⟨fun h => h.elim id fun h => absurd h inL_nil, .inl⟩
theorem nf_nil : NF [] := ⟨fun _ h => by simp at h, .nil⟩
theorem nf_one {r : Rn} (h : okR r) : NF [r] := ⟨fun s hs => by rw [List.mem_singleton.1 hs]; exact h, List.pairwise_singleton _ _⟩
theorem nf_cons {r : Rn} {l : List Rn} : NF (r :: l) ↔ okR r ∧ NF l ∧ ∀ s, s ∈ l → r.2 + 2 ≤ s.1 := by
  constructor
  · rintro ⟨h, p⟩
    obtain ⟨p1, p2⟩ := List.pairwise_cons.1 p
    exact ⟨h r List.mem_cons_self, ⟨fun s hs => h s (List.mem_cons_of_mem _ hs), p2⟩, p1⟩
  · rintro ⟨h, ⟨h2, p⟩, p1⟩
    refine ⟨fun s hs => ?_, List.pairwise_cons.2 ⟨p1, p⟩⟩
    rcases List.mem_cons.1 hs with rfl | hs
    · exact h
    · exact h2 s hs
theorem okR_lo {r : Rn} (h : okR r) : inR r r.1 := ⟨Int.le_refl _, h.2.1⟩
theorem okR_hi {r : Rn} (h : okR r) : inR r r.2 := ⟨h.2.1, Int.le_refl _⟩
theorem inL_lo {l : List Rn} (h : NF l) {s : Rn} (hs : s ∈ l) : inL l s.1 := ⟨s, hs, okR_lo (h.1 s hs)⟩
theorem nf_head_le {r : Rn} {l : List Rn} (h : NF (r :: l)) {y : Int} (hy : inL (r :: l) y) : r.1 ≤ y := by
  obtain ⟨ho, hn, hp⟩ := nf_cons.1 h
  rcases inL_cons.1 hy with h1 | ⟨s, hs, h1, _⟩
  · exact h1.1
  · have := hp s hs
    have := ho.2.1
    omega
theorem nf_ext : ∀ {l m : List Rn}, NF l → NF m → (∀ y, inL l y ↔ inL m y) → l = m
  | [], [], _, _, _ => rfl
  | [], s :: m, _, hm, h => absurd ((h s.1).2 (inL_lo hm List.mem_cons_self)) inL_nil
  | r :: l, [], hl, _, h => absurd ((h r.1).1 (inL_lo hl List.mem_cons_self)) inL_nil
  | r :: l, s :: m, hl, hm, h => by
    obtain ⟨ho, hn, hp⟩ := nf_cons.1 hl
    obtain ⟨ho', hn', hp'⟩ := nf_cons.1 hm
    have a1 := nf_head_le hm ((h r.1).1 (inL_lo hl List.mem_cons_self))
    have a2 := nf_head_le hl ((h s.1).2 (inL_lo hm List.mem_cons_self))
    have e1 : r.1 = s.1 := Int.le_antisymm a2 a1
    have gap : ∀ {r s : Rn} {l m : List Rn}, okR s → (∀ t, t ∈ l → r.2 + 2 ≤ t.1) → r.1 = s.1 → (inL (s :: m) (r.2 + 1) → inL (r :: l) (r.2 + 1)) → r.1 ≤ r.2 → s.2 ≤ r.2 := by
      intro r s l m os hp e hh hr
      by_cases hc : s.2 ≤ r.2
      · exact hc
      · rcases inL_cons.1 (hh (inL_cons.2 (.inl ⟨by omega, by omega⟩))) with h1 | ⟨t, ht, h1, _⟩
        · have := h1.2; omega
        · have := hp t ht; omega
    have b1 := gap ho' hp e1 (h _).2 ho.2.1
    have b2 := gap ho hp' e1.symm (h _).1 ho'.2.1
    have er : r = s := Prod.ext e1 (Int.le_antisymm b2 b1)
    subst er
    have key : ∀ {l m : List Rn}, (∀ t, t ∈ l → r.2 + 2 ≤ t.1) → (∀ y, inL (r :: l) y → inL (r :: m) y) → ∀ y, inL l y → inL m y := by
      intro l m hp h y hy
      rcases inL_cons.1 (h y (inL_cons.2 (.inr hy))) with h1 | h1
      · obtain ⟨t, ht, h2, _⟩ := hy
        have := hp t ht
        have := h1.2
        omega
      · exact h1
    rw [nf_ext hn hn' fun y => ⟨key hp (fun y => (h y).1) y, key hp' (fun y => (h y).2) y⟩]
/-! ### The parts from -Far to Far -/
def clipR (r : Rn) : Rn := (max r.1 (-FAR), min r.2 FAR)
def clips (l : List Rn) : List Rn := (l.map clipR).filter (fun r => decide (r.1 ≤ r.2))
def inC (l : List Rn) (y : Int) : Prop := ∃ r, r ∈ l ∧ inR (clipR r) y
theorem inC_clips {l : List Rn} {y : Int} : inL (clips l) y ↔ inC l y := by
  unfold clips
  constructor
  · rintro ⟨r, h, hy⟩
    obtain ⟨h1, _⟩ := List.mem_filter.1 h
    obtain ⟨s, hs, rfl⟩ := List.mem_map.1 h1
    exact ⟨s, hs, hy⟩
  · rintro ⟨r, h, hy⟩
    refine ⟨clipR r, List.mem_filter.2 ⟨List.mem_map.2 ⟨r, h, rfl⟩, ?_⟩, hy⟩
    obtain ⟨h1, h2⟩ := hy
    exact decide_eq_true (Int.le_trans h1 h2)
theorem clipR_far (r : Rn) : -FAR ≤ (clipR r).1 ∧ (clipR r).2 ≤ FAR := ⟨Int.le_max_right _ _, Int.min_le_right _ _⟩
theorem clips_ok {l : List Rn} {r : Rn} (h : r ∈ clips l) : okR r := by
  obtain ⟨h1, h2⟩ := List.mem_filter.1 h
  obtain ⟨s, _, rfl⟩ := List.mem_map.1 h1
  exact ⟨(clipR_far s).1, of_decide_eq_true h2, (clipR_far s).2⟩
theorem inC_far {l : List Rn} {y : Int} (h : inC l y) : -FAR ≤ y ∧ y ≤ FAR := by
  obtain ⟨r, _, h1, h2⟩ := h
  have := clipR_far r
  omega
theorem inC_nf {l : List Rn} (h : NF l) {y : Int} : inC l y ↔ inL l y := by
  constructor
  · rintro ⟨r, hr, h1⟩
    have e : clipR r = r := by
      obtain ⟨a, _, c⟩ := h.1 r hr
      exact Prod.ext (Int.max_eq_left a) (Int.min_eq_left c)
    exact ⟨r, hr, e ▸ h1⟩
  · rintro ⟨r, hr, h1⟩
    have e : clipR r = r := by
      obtain ⟨a, _, c⟩ := h.1 r hr
      exact Prod.ext (Int.max_eq_left a) (Int.min_eq_left c)
    exact ⟨r, hr, e.symm ▸ h1⟩
theorem inC_cons {r : Rn} {l : List Rn} {y : Int} : inC (r :: l) y ↔ inR (clipR r) y ∨ inC l y := by
  constructor
  · rintro ⟨s, h, hy⟩
    rcases List.mem_cons.1 h with rfl | h
    · exact .inl hy
    · exact .inr ⟨s, h, hy⟩
  · rintro (h | ⟨s, h, hy⟩)
    · exact ⟨r, List.mem_cons_self, h⟩
    · exact ⟨s, List.mem_cons_of_mem _ h, hy⟩
/-! ### A run is put into a set -/
def putG : List Rn → Rn → Bool → List Rn
  | [], r, done => if done = true then [] else [r]
  | s :: l, r, done => if s.2 + 1 < r.1 then s :: putG l r done else if r.2 + 1 < s.1 then (if done = true then s :: putG l r true else r :: s :: putG l r true) else putG l (min r.1 s.1, max r.2 s.2) done
def putF (l : List Rn) (r : Rn) : List Rn := if r.1 > r.2 then l else putG l r false
theorem putG_done : ∀ {l : List Rn} {r : Rn}, NF l → r.1 ≤ r.2 → (∀ s, s ∈ l → r.2 + 1 < s.1) → putG l r true = l
  | [], _, _, _, _ => rfl
  | s :: l, r, hn, hr, h => by
    obtain ⟨ho, hn', _⟩ := nf_cons.1 hn
    have h1 := h s List.mem_cons_self
    have h2 := ho.2.1
    rw [putG, if_neg (by omega), if_pos h1, if_pos rfl, putG_done hn' hr fun t ht => h t (List.mem_cons_of_mem _ ht)]
theorem putG_ok : ∀ {l : List Rn} {r : Rn}, NF l → okR r → NF (putG l r false) ∧ ∀ y, inL (putG l r false) y ↔ inL l y ∨ inR r y
  | [], r, _, hr => by
    have e : putG [] r false = [r] := rfl
    rw [e]
    exact ⟨nf_one hr, fun y => by rw [inL_one]; exact ⟨.inr, fun h => h.elim (fun h => absurd h inL_nil) id⟩⟩
  | s :: l, r, hn, hr => by
    obtain ⟨ho, hn', hp⟩ := nf_cons.1 hn
    rw [putG]
    by_cases c1 : s.2 + 1 < r.1
    · rw [if_pos c1]
      obtain ⟨i1, i2⟩ := putG_ok hn' hr
      refine ⟨nf_cons.2 ⟨ho, i1, fun t ht => ?_⟩, fun y => ?_⟩
      · rcases (i2 t.1).1 (inL_lo i1 ht) with ⟨u, hu, h1, _⟩ | h1
        · have := hp u hu; omega
        · have := h1.1; omega
      · rw [inL_cons, i2, inL_cons, or_assoc]
    · rw [if_neg c1]
      by_cases c2 : r.2 + 1 < s.1
      · rw [if_pos c2, if_neg (by simp), putG_done hn' hr.2.1 fun t ht => by have := hp t ht; have := ho.2.1; omega]
        refine ⟨nf_cons.2 ⟨hr, hn, fun t ht => ?_⟩, fun y => by rw [inL_cons]; exact Or.comm⟩
        rcases List.mem_cons.1 ht with rfl | ht
        · omega
        · have := hp t ht; have := ho.2.1; omega
      · rw [if_neg c2]
        have hr' : okR (min r.1 s.1, max r.2 s.2) := by
          obtain ⟨a1, a2, a3⟩ := hr
          obtain ⟨b1, b2, b3⟩ := ho
          exact ⟨by show -FAR ≤ min r.1 s.1; omega, by show min r.1 s.1 ≤ max r.2 s.2; omega, by show max r.2 s.2 ≤ FAR; omega⟩
        obtain ⟨i1, i2⟩ := putG_ok hn' hr'
        refine ⟨i1, fun y => ?_⟩
        rw [i2, inL_cons]
        have : inR (min r.1 s.1, max r.2 s.2) y ↔ inR s y ∨ inR r y := by
          obtain ⟨a1, a2, a3⟩ := hr
          obtain ⟨b1, b2, b3⟩ := ho
          show (min r.1 s.1 ≤ y ∧ y ≤ max r.2 s.2) ↔ (s.1 ≤ y ∧ y ≤ s.2) ∨ (r.1 ≤ y ∧ y ≤ r.2)
          omega
        rw [this]
        constructor
        · rintro (h | h | h)
          · exact .inl (.inr h)
          · exact .inl (.inl h)
          · exact .inr h
        · rintro ((h | h) | h)
          · exact .inr (.inl h)
          · exact .inl h
          · exact .inr (.inr h)
theorem putF_ok {l : List Rn} {r : Rn} (hn : NF l) (h1 : -FAR ≤ r.1) (h2 : r.2 ≤ FAR) : NF (putF l r) ∧ ∀ y, inL (putF l r) y ↔ inL l y ∨ inR r y := by
  unfold putF
  by_cases h : r.1 > r.2
  · rw [if_pos h]
    exact ⟨hn, fun y => ⟨.inl, fun hh => hh.elim id fun hh => by have := hh.1; have := hh.2; omega⟩⟩
  · rw [if_neg h]
    exact putG_ok hn ⟨h1, by omega, h2⟩
/-! ### The document's sets -/
def addL (out : List Rn) (l : List Rn) : List Rn := l.foldl (fun o r => putF o (clipR r)) out
theorem addL_ok {l : List Rn} : ∀ {out : List Rn}, NF out → NF (addL out l) ∧ ∀ y, inL (addL out l) y ↔ inL out y ∨ inC l y := by
  induction l with
  | nil => intro out hn; exact ⟨hn, fun y => ⟨.inl, fun h => h.elim id fun ⟨_, h, _⟩ => by simp at h⟩⟩
  | cons r l ih =>
    intro out hn
    obtain ⟨p1, p2⟩ := putF_ok hn (clipR_far r).1 (clipR_far r).2
    obtain ⟨q1, q2⟩ := ih p1
    refine ⟨q1, fun y => ?_⟩
    show inL (addL (putF out (clipR r)) l) y ↔ _
    rw [q2, p2, inC_cons, or_assoc]
def rnorm (l : List Rn) : List Rn := addL [] l
theorem rnorm_ok (l : List Rn) : NF (rnorm l) ∧ ∀ y, inL (rnorm l) y ↔ inC l y := by
  obtain ⟨h1, h2⟩ := addL_ok (l := l) nf_nil
  exact ⟨h1, fun y => (h2 y).trans ⟨fun h => h.elim (fun h => absurd h inL_nil) id, .inr⟩⟩
end Go.Em.Runs
/- Sets of years as runs: the ends of runs, sorted by year, make the normal form. -/
namespace Go.Em.Runs
set_option maxRecDepth 100000
structure En where
  y : Int
  f : Int
  s : Int
deriving Inhabited
def longR (L : List Rn) (r : Rn) : List Rn := match L.getLast? with
  | some s => if s.2 + 1 = r.1 then L.dropLast ++ [(s.1, r.2)] else L ++ [r]
  | none => [r]
theorem nf_append {l m : List Rn} : NF (l ++ m) ↔ NF l ∧ NF m ∧ ∀ r, r ∈ l → ∀ s, s ∈ m → r.2 + 2 ≤ s.1 := by
  constructor
  · rintro ⟨h, p⟩
    obtain ⟨p1, p2, p3⟩ := List.pairwise_append.1 p
    exact ⟨⟨fun s hs => h s (List.mem_append_left _ hs), p1⟩, ⟨fun s hs => h s (List.mem_append_right _ hs), p2⟩, p3⟩
  · rintro ⟨⟨h1, p1⟩, ⟨h2, p2⟩, p3⟩
    exact ⟨fun s hs => (List.mem_append.1 hs).elim (h1 s) (h2 s), List.pairwise_append.2 ⟨p1, p2, p3⟩⟩
theorem longR_ok {L : List Rn} {r : Rn} (hn : NF L) (hr : okR r) (hL : ∀ s, s ∈ L → s.2 < r.1) : NF (longR L r) ∧ (∀ y, inL (longR L r) y ↔ inL L y ∨ inR r y) ∧ ∀ s, s ∈ longR L r → s.2 ≤ r.2 := by
  unfold longR
  rcases List.eq_nil_or_concat L with rfl | ⟨M, s, rfl⟩
  · refine ⟨nf_one hr, fun y => ?_, fun s hs => by rw [List.mem_singleton.1 hs]; exact Int.le_refl _⟩
    show inL [r] y ↔ _
    rw [inL_one]
    exact ⟨.inr, fun h => h.elim (fun h => absurd h inL_nil) id⟩
  · rw [List.concat_eq_append] at *
    simp only [List.getLast?_append, List.getLast?_singleton, Option.some_or]
    obtain ⟨n1, n2, n3⟩ := nf_append.1 hn
    have os := n2.1 s List.mem_cons_self
    have hs := hL s (by simp)
    by_cases c : s.2 + 1 = r.1
    · rw [if_pos c, List.dropLast_concat]
      have oo : okR (s.1, r.2) := ⟨os.1, by have := os.2.1; have := hr.2.1; show s.1 ≤ r.2; omega, hr.2.2⟩
      refine ⟨nf_append.2 ⟨n1, nf_one oo, fun t ht u hu => by rw [List.mem_singleton.1 hu]; exact n3 t ht s List.mem_cons_self⟩, fun y => ?_, fun t ht => ?_⟩
      · rw [inL_append, inL_append, inL_one, inL_one, or_assoc]
        have : inR (s.1, r.2) y ↔ inR s y ∨ inR r y := by
          have := os.2.1
          have := hr.2.1
          show (s.1 ≤ y ∧ y ≤ r.2) ↔ (s.1 ≤ y ∧ y ≤ s.2) ∨ (r.1 ≤ y ∧ y ≤ r.2)
          omega
        rw [this]
      · rcases List.mem_append.1 ht with ht | ht
        · have := hL t (List.mem_append_left _ ht); have := hr.2.1; omega
        · rw [List.mem_singleton.1 ht]; exact Int.le_refl _
    · rw [if_neg c]
      refine ⟨nf_append.2 ⟨hn, nf_one hr, fun t ht u hu => ?_⟩, fun y => by rw [inL_append, inL_one], fun t ht => ?_⟩
      · rw [List.mem_singleton.1 hu]
        rcases List.mem_append.1 ht with ht | ht
        · have := n3 t ht s List.mem_cons_self; have := os.2.1; omega
        · rw [List.mem_singleton.1 ht]; omega
      · rcases List.mem_append.1 ht with ht | ht
        · have := hL t ht; have := hr.2.1; omega
        · rw [List.mem_singleton.1 ht]; exact Int.le_refl _
def combF (kept : Bool → Bool → Bool) : List En → Int → Int → Int → List Rn → List Rn
  | [], _, _, _, L => L
  | x :: t, fr, f, s, L => combF kept t x.y (f + x.f) (s + x.s) (if (decide (fr < x.y) && kept (decide (f > 0)) (decide (s > 0))) = true then longR L (fr, x.y - 1) else L)
def cntF : List En → Int → Int
  | [], _ => 0
  | x :: t, y => (if x.y ≤ y then x.f else 0) + cntF t y
def cntS : List En → Int → Int
  | [], _ => 0
  | x :: t, y => (if x.y ≤ y then x.s else 0) + cntS t y
theorem cntF_late {t : List En} {y : Int} (h : ∀ x, x ∈ t → y < x.y) : cntF t y = 0 ∧ cntS t y = 0 := by
  induction t with
  | nil => exact ⟨rfl, rfl⟩
  | cons x t ih =>
    have h1 := h x List.mem_cons_self
    obtain ⟨i1, i2⟩ := ih fun x hx => h x (List.mem_cons_of_mem _ hx)
    rw [cntF, cntS, if_neg (by omega), if_neg (by omega), i1, i2]
    exact ⟨rfl, rfl⟩
theorem combF_ok (kept : Bool → Bool → Bool) : ∀ (t : List En) (fr f s : Int) (L : List Rn), NF L → (∀ r, r ∈ L → r.2 < fr) → -FAR ≤ fr → t.Pairwise (fun a b => a.y ≤ b.y) → (∀ x, x ∈ t → fr ≤ x.y ∧ x.y ≤ FAR + 1) →
    NF (combF kept t fr f s L) ∧ ∀ y, inL (combF kept t fr f s L) y ↔ inL L y ∨ (fr ≤ y ∧ (∃ x, x ∈ t ∧ y < x.y) ∧ kept (decide (f + cntF t y > 0)) (decide (s + cntS t y > 0)) = true)
  | [], fr, f, s, L, hn, _, _, _, _ => ⟨hn, fun y => ⟨.inl, fun h => h.elim id fun ⟨_, ⟨_, h, _⟩, _⟩ => by simp at h⟩⟩
  | x :: t, fr, f, s, L, hn, hL, hf, hp, hx => by
    obtain ⟨p1, p2⟩ := List.pairwise_cons.1 hp
    obtain ⟨x1, x2⟩ := hx x List.mem_cons_self
    have hx' : ∀ z, z ∈ t → x.y ≤ z.y ∧ z.y ≤ FAR + 1 := fun z hz => ⟨p1 z hz, (hx z (List.mem_cons_of_mem _ hz)).2⟩
    obtain ⟨L', hL'⟩ : ∃ L', L' = if (decide (fr < x.y) && kept (decide (f > 0)) (decide (s > 0))) = true then longR L (fr, x.y - 1) else L := ⟨_, rfl⟩
    have facts : NF L' ∧ (∀ r, r ∈ L' → r.2 < x.y) ∧ ∀ y, inL L' y ↔ inL L y ∨ (fr ≤ y ∧ y < x.y ∧ kept (decide (f > 0)) (decide (s > 0)) = true) := by
      rw [hL']
      by_cases c : (decide (fr < x.y) && kept (decide (f > 0)) (decide (s > 0))) = true
      · rw [if_pos c]
        obtain ⟨c1, c2⟩ := (Bool.and_eq_true _ _).mp c
        have c1 := of_decide_eq_true c1
        obtain ⟨a1, a2, a3⟩ := longR_ok (r := (fr, x.y - 1)) hn ⟨hf, by show fr ≤ x.y - 1; omega, by show x.y - 1 ≤ FAR; omega⟩ hL
        refine ⟨a1, fun r hr => by have := a3 r hr; have : r.2 ≤ x.y - 1 := this; omega, fun y => ?_⟩
        rw [a2, c2]
        show inL L y ∨ (fr ≤ y ∧ y ≤ x.y - 1) ↔ _
        constructor
        · rintro (h | ⟨h1, h2⟩)
          · exact .inl h
          · exact .inr ⟨h1, by omega, rfl⟩
        · rintro (h | ⟨h1, h2, _⟩)
          · exact .inl h
          · exact .inr ⟨h1, by omega⟩
      · rw [if_neg c]
        refine ⟨hn, fun r hr => by have := hL r hr; omega, fun y => ⟨.inl, fun h => h.elim id fun ⟨h1, h2, h3⟩ => absurd ?_ c⟩⟩
        rw [h3, decide_eq_true (show fr < x.y by omega)]; rfl
    obtain ⟨n1, n2, n3⟩ := facts
    obtain ⟨i1, i2⟩ := combF_ok kept t x.y (f + x.f) (s + x.s) L' n1 n2 (by omega) p2 hx'
    rw [combF, ← hL']
    refine ⟨i1, fun y => ?_⟩
    rw [i2, n3]
    by_cases hy : x.y ≤ y
    · have e1 : f + x.f + cntF t y = f + cntF (x :: t) y := by rw [cntF, if_pos hy]; omega
      have e2 : s + x.s + cntS t y = s + cntS (x :: t) y := by rw [cntS, if_pos hy]; omega
      rw [e1, e2]
      constructor
      · rintro ((h | ⟨_, h, _⟩) | ⟨h1, ⟨z, hz, h2⟩, h3⟩)
        · exact .inl h
        · omega
        · exact .inr ⟨by omega, ⟨z, List.mem_cons_of_mem _ hz, h2⟩, h3⟩
      · rintro (h | ⟨h1, ⟨z, hz, h2⟩, h3⟩)
        · exact .inl (.inl h)
        · rcases List.mem_cons.1 hz with rfl | hz
          · omega
          · exact .inr ⟨hy, ⟨z, hz, h2⟩, h3⟩
    · obtain ⟨z1, z2⟩ := cntF_late (t := x :: t) (y := y) fun z hz => by
        rcases List.mem_cons.1 hz with rfl | hz
        · omega
        · have := p1 z hz; omega
      rw [z1, z2, Int.add_zero, Int.add_zero]
      constructor
      · rintro ((h | ⟨h1, h2, h3⟩) | ⟨h1, _⟩)
        · exact .inl h
        · exact .inr ⟨h1, ⟨x, List.mem_cons_self, h2⟩, h3⟩
        · omega
      · rintro (h | ⟨h1, _, h3⟩)
        · exact .inl (.inl h)
        · exact .inl (.inr ⟨h1, by omega, h3⟩)
theorem cnt_perm {a b : List En} (h : a.Perm b) (y : Int) : cntF a y = cntF b y ∧ cntS a y = cntS b y := by
  induction h with
  | nil => exact ⟨rfl, rfl⟩
  | cons x _ ih => rw [cntF, cntF, cntS, cntS, ih.1, ih.2]; exact ⟨rfl, rfl⟩
  | swap x z l => simp only [cntF, cntS]; constructor <;> omega
  | trans _ _ i1 i2 => exact ⟨i1.1.trans i2.1, i1.2.trans i2.2⟩
def endA (l : List Rn) : List En := l.flatMap fun r => [⟨r.1, 1, 0⟩, ⟨r.2 + 1, -1, 0⟩]
def endB (l : List Rn) : List En := l.flatMap fun r => [⟨r.1, 0, 1⟩, ⟨r.2 + 1, 0, -1⟩]
def endsL (a b : List Rn) : List En := endA (clips a) ++ endB (clips b)
def howMany : List Rn → Int → Int
  | [], _ => 0
  | r :: l, y => (if inR r y then 1 else 0) + howMany l y
theorem howMany_nn (l : List Rn) (y : Int) : 0 ≤ howMany l y := by
  induction l with
  | nil => exact Int.le_refl _
  | cons r l ih => rw [howMany]; split <;> omega
theorem howMany_pos (l : List Rn) (y : Int) : howMany l y > 0 ↔ inL l y := by
  induction l with
  | nil => exact ⟨fun h => absurd h (show ¬ (0 : Int) > 0 by omega), fun h => absurd h inL_nil⟩
  | cons r l ih =>
    have := howMany_nn l y
    rw [howMany, inL_cons, ← ih]
    by_cases h : inR r y
    · rw [if_pos h]; exact ⟨fun _ => .inl h, fun _ => by omega⟩
    · rw [if_neg h, Int.zero_add]; exact ⟨.inr, fun hh => hh.elim (fun h1 => absurd h1 h) id⟩
theorem cnt_append (a b : List En) (y : Int) : cntF (a ++ b) y = cntF a y + cntF b y ∧ cntS (a ++ b) y = cntS a y + cntS b y := by
  induction a with
  | nil => simp [cntF, cntS]
  | cons x a ih => rw [List.cons_append, cntF, cntF, cntS, cntS, ih.1, ih.2]; omega
theorem cnt_A {l : List Rn} (h : ∀ r, r ∈ l → okR r) (y : Int) : cntF (endA l) y = howMany l y ∧ cntS (endA l) y = 0 := by
  induction l with
  | nil => exact ⟨rfl, rfl⟩
  | cons r l ih =>
    obtain ⟨i1, i2⟩ := ih fun r hr => h r (List.mem_cons_of_mem _ hr)
    obtain ⟨_, o2, _⟩ := h r List.mem_cons_self
    have e : endA (r :: l) = ⟨r.1, 1, 0⟩ :: ⟨r.2 + 1, -1, 0⟩ :: endA l := rfl
    rw [e, cntF, cntF, cntS, cntS, i1, i2, howMany]
    show (if r.1 ≤ y then (1 : Int) else 0) + ((if r.2 + 1 ≤ y then (-1 : Int) else 0) + howMany l y) = _ ∧ (if r.1 ≤ y then (0 : Int) else 0) + ((if r.2 + 1 ≤ y then (0 : Int) else 0) + 0) = 0
    by_cases c : inR r y
    · rw [if_pos c, if_pos c.1, if_neg (by have := c.2; omega)]; constructor
      · omega
      · simp
    · rw [if_neg c]
      by_cases c1 : r.1 ≤ y
      · have c2 : r.2 + 1 ≤ y := by
          by_cases c3 : y ≤ r.2
          · exact absurd ⟨c1, c3⟩ c
          · omega
        rw [if_pos c1, if_pos c2]; constructor
        · omega
        · simp
      · have c2 : ¬ r.2 + 1 ≤ y := by omega
        rw [if_neg c1, if_neg c2]; constructor
        · omega
        · simp
theorem cnt_B {l : List Rn} (h : ∀ r, r ∈ l → okR r) (y : Int) : cntS (endB l) y = howMany l y ∧ cntF (endB l) y = 0 := by
  induction l with
  | nil => exact ⟨rfl, rfl⟩
  | cons r l ih =>
    obtain ⟨i1, i2⟩ := ih fun r hr => h r (List.mem_cons_of_mem _ hr)
    obtain ⟨_, o2, _⟩ := h r List.mem_cons_self
    have e : endB (r :: l) = ⟨r.1, 0, 1⟩ :: ⟨r.2 + 1, 0, -1⟩ :: endB l := rfl
    rw [e, cntF, cntF, cntS, cntS, i1, i2, howMany]
    show (if r.1 ≤ y then (1 : Int) else 0) + ((if r.2 + 1 ≤ y then (-1 : Int) else 0) + howMany l y) = _ ∧ (if r.1 ≤ y then (0 : Int) else 0) + ((if r.2 + 1 ≤ y then (0 : Int) else 0) + 0) = 0
    by_cases c : inR r y
    · rw [if_pos c, if_pos c.1, if_neg (by have := c.2; omega)]; constructor
      · omega
      · simp
    · rw [if_neg c]
      by_cases c1 : r.1 ≤ y
      · have c2 : r.2 + 1 ≤ y := by
          by_cases c3 : y ≤ r.2
          · exact absurd ⟨c1, c3⟩ c
          · omega
        rw [if_pos c1, if_pos c2]; constructor
        · omega
        · simp
      · have c2 : ¬ r.2 + 1 ≤ y := by omega
        rw [if_neg c1, if_neg c2]; constructor
        · omega
        · simp
theorem endsL_mem {a b : List Rn} {x : En} (h : x ∈ endsL a b) : -FAR ≤ x.y ∧ x.y ≤ FAR + 1 := by
  have key : ∀ l : List Rn, ∀ r, r ∈ clips l → (-FAR ≤ r.1 ∧ r.1 ≤ FAR + 1) ∧ (-FAR ≤ r.2 + 1 ∧ r.2 + 1 ≤ FAR + 1) := fun l r hr => by
    obtain ⟨h1, h2, h3⟩ := clips_ok hr
    omega
  rcases List.mem_append.1 h with h | h
  · obtain ⟨r, hr, hx⟩ := List.mem_flatMap.1 h
    obtain ⟨k1, k2⟩ := key a r hr
    rcases List.mem_cons.1 hx with rfl | hx
    · exact k1
    · rw [List.mem_singleton.1 hx]; exact k2
  · obtain ⟨r, hr, hx⟩ := List.mem_flatMap.1 h
    obtain ⟨k1, k2⟩ := key b r hr
    rcases List.mem_cons.1 hx with rfl | hx
    · exact k1
    · rw [List.mem_singleton.1 hx]; exact k2
def combL (kept : Bool → Bool → Bool) (E : List En) : List Rn := combF kept E (-FAR) 0 0 []
open Classical in
theorem combL_ok (kept : Bool → Bool → Bool) (k0 : kept false false = false) {a b : List Rn} {E : List En} (hp : E.Perm (endsL a b)) (hs : E.Pairwise (fun x z => x.y ≤ z.y)) :
    NF (combL kept E) ∧ ∀ y, inL (combL kept E) y ↔ kept (decide (inC a y)) (decide (inC b y)) = true := by
  obtain ⟨h1, h2⟩ := combF_ok kept E (-FAR) 0 0 [] nf_nil (fun r hr => by simp at hr) (Int.le_refl _) hs fun x hx => endsL_mem (hp.mem_iff.1 hx)
  refine ⟨h1, fun y => ?_⟩
  have c1 : ∀ y, cntF E y = howMany (clips a) y ∧ cntS E y = howMany (clips b) y := fun y => by
    obtain ⟨p1, p2⟩ := cnt_perm hp y
    obtain ⟨q1, q2⟩ := cnt_append (endA (clips a)) (endB (clips b)) y
    obtain ⟨r1, r2⟩ := cnt_A (fun r (h : r ∈ clips a) => clips_ok h) y
    obtain ⟨t1, t2⟩ := cnt_B (fun r (h : r ∈ clips b) => clips_ok h) y
    rw [p1, p2, endsL, q1, q2, r1, r2, t1, t2]
    exact ⟨by omega, by omega⟩
  have d1 : ∀ l : List Rn, decide (howMany (clips l) y > 0) = decide (inC l y) := fun l => by
    rw [decide_eq_decide, howMany_pos, inC_clips]
  show inL (combF kept E (-FAR) 0 0 []) y ↔ _
  rw [h2, (c1 y).1, (c1 y).2, Int.zero_add, Int.zero_add, d1, d1]
  constructor
  · rintro (h | ⟨_, _, h⟩)
    · exact absurd h inL_nil
    · exact h
  · intro h
    refine .inr ?_
    have hin : inC a y ∨ inC b y := by
      by_cases ca : inC a y
      · exact .inl ca
      · by_cases cb : inC b y
        · exact .inr cb
        · rw [decide_eq_false ca, decide_eq_false cb, k0] at h; exact absurd h (by simp)
    refine ⟨hin.elim (fun h => (inC_far h).1) fun h => (inC_far h).1, ?_, h⟩
    rcases hin with hh | hh
    · obtain ⟨r, hr, h3, h4⟩ := inC_clips.2 hh
      exact ⟨⟨r.2 + 1, -1, 0⟩, hp.mem_iff.2 (List.mem_append_left _ (List.mem_flatMap.2 ⟨r, hr, by simp⟩)), by show y < r.2 + 1; omega⟩
    · obtain ⟨r, hr, h3, h4⟩ := inC_clips.2 hh
      exact ⟨⟨r.2 + 1, 0, -1⟩, hp.mem_iff.2 (List.mem_append_right _ (List.mem_flatMap.2 ⟨r, hr, by simp⟩)), by show y < r.2 + 1; omega⟩
end Go.Em.Runs
