/- A closed net with two moves: what the document's rounds make of it. -/
import Derived.Test.YtlkpikdfbodhoaaDoorNge
namespace Go.Proofs.YtlkpikdfbodhoaaDoor
open Go Go.Em Go.Em.Net
set_option maxRecDepth 100000
section
variable {n : Nat} {W : Mx} {a b : Nat} {e f : Int}
theorem fwl_w {i j : Nat} {w : Int} (k : Nat) (h : W i j = some w) : ∃ z, fw (Lw W a b e f) k i j = some z ∧ z ≤ w := by
  obtain ⟨y, h1, h2⟩ := Lw_w (a := a) (b := b) (e := e) (f := f) h
  obtain ⟨z, h3, h4⟩ := fw_mono 0 k (show fw (Lw W a b e f) 0 i j = some y from h1)
  rw [Nat.zero_add] at h3
  exact ⟨z, h3, by omega⟩
theorem fwl_e (hne : a ≠ b) (k : Nat) : ∃ z, fw (Lw W a b e f) k a b = some z ∧ z ≤ e := by
  obtain ⟨y, h1, h2⟩ := Lw_e (W := W) (e := e) (f := f) hne
  obtain ⟨z, h3, h4⟩ := fw_mono 0 k (show fw (Lw W a b e f) 0 a b = some y from h1)
  rw [Nat.zero_add] at h3
  exact ⟨z, h3, by omega⟩
theorem fwl_f (k : Nat) : ∃ z, fw (Lw W a b e f) k b a = some z ∧ z ≤ f := by
  obtain ⟨y, h1, h2⟩ := Lw_f (W := W) (a := a) (b := b) (e := e) (f := f)
  obtain ⟨z, h3, h4⟩ := fw_mono 0 k (show fw (Lw W a b e f) 0 b a = some y from h1)
  rw [Nat.zero_add] at h3
  exact ⟨z, h3, by omega⟩
theorem fwl_hase (hne : a ≠ b) {k : Nat} (hd : ∀ l, l < k → fw (Lw W a b e f) l l l = some 0) {i j : Nat} {x y : Int} (h1 : i = a ∨ a < k) (h2 : j = b ∨ b < k) (hx : W i a = some x) (hy : W b j = some y) : ∃ z, fw (Lw W a b e f) k i j = some z := by
  obtain ⟨t, t1, _⟩ := fwl_e (W := W) (e := e) (f := f) hne k
  have s1 : ∃ u, fw (Lw W a b e f) k i b = some u := by
    rcases h1 with rfl | h1
    · exact ⟨t, t1⟩
    · obtain ⟨r, r1, _⟩ := fwl_w (a := a) (b := b) (e := e) (f := f) k hx
      obtain ⟨u, u1, _⟩ := fw_closed k hd h1 r1 t1
      exact ⟨u, u1⟩
  obtain ⟨u, u1⟩ := s1
  rcases h2 with rfl | h2
  · exact ⟨u, u1⟩
  · obtain ⟨r, r1, _⟩ := fwl_w (a := a) (b := b) (e := e) (f := f) k hy
    obtain ⟨v, v1, _⟩ := fw_closed k hd h2 u1 r1
    exact ⟨v, v1⟩
theorem fwl_hasf {k : Nat} (hd : ∀ l, l < k → fw (Lw W a b e f) l l l = some 0) {i j : Nat} {x y : Int} (h1 : i = b ∨ b < k) (h2 : j = a ∨ a < k) (hx : W i b = some x) (hy : W a j = some y) : ∃ z, fw (Lw W a b e f) k i j = some z := by
  obtain ⟨t, t1, _⟩ := fwl_f (W := W) (a := a) (b := b) (e := e) (f := f) k
  have s1 : ∃ u, fw (Lw W a b e f) k i a = some u := by
    rcases h1 with rfl | h1
    · exact ⟨t, t1⟩
    · obtain ⟨r, r1, _⟩ := fwl_w (a := a) (b := b) (e := e) (f := f) k hx
      obtain ⟨u, u1, _⟩ := fw_closed k hd h1 r1 t1
      exact ⟨u, u1⟩
  obtain ⟨u, u1⟩ := s1
  rcases h2 with rfl | h2
  · exact ⟨u, u1⟩
  · obtain ⟨r, r1, _⟩ := fwl_w (a := a) (b := b) (e := e) (f := f) k hy
    obtain ⟨v, v1, _⟩ := fw_closed k hd h2 u1 r1
    exact ⟨v, v1⟩
def UpB (W : Mx) (a b : Nat) (e f : Int) (k i j : Nat) (z : Int) : Prop :=
  (∃ w, W i j = some w ∧ z ≤ w) ∨ ((i = a ∨ a < k) ∧ (j = b ∨ b < k) ∧ ∃ x y, W i a = some x ∧ W b j = some y ∧ z ≤ x + e + y) ∨ ((i = b ∨ b < k) ∧ (j = a ∨ a < k) ∧ ∃ x y, W i b = some x ∧ W a j = some y ∧ z ≤ x + f + y)
theorem UpB.mono {k i j : Nat} {z z' : Int} (h : UpB W a b e f k i j z) (hz : z' ≤ z) : UpB W a b e f (k + 1) i j z' := by
  rcases h with ⟨w, h1, h2⟩ | ⟨h1, h2, x, y, h3, h4, h5⟩ | ⟨h1, h2, x, y, h3, h4, h5⟩
  · exact .inl ⟨w, h1, by omega⟩
  · exact .inr (.inl ⟨by omega, by omega, x, y, h3, h4, by omega⟩)
  · exact .inr (.inr ⟨by omega, by omega, x, y, h3, h4, by omega⟩)
theorem up_fw (c : Cl n W) (ha : a < n) (hb : b < n) (hne : a ≠ b) : ∀ k, (∀ l, l < k → fw (Lw W a b e f) l l l = some 0) → ∀ i j z, fw (Lw W a b e f) k i j = some z → UpB W a b e f k i j z
  | 0, _, i, j, z, hz => by
    rcases Lw_or hne hz with h | ⟨rfl, rfl, rfl⟩ | ⟨rfl, rfl, rfl⟩
    · exact .inl ⟨z, h, Int.le_refl _⟩
    · exact .inr (.inl ⟨.inl rfl, .inl rfl, 0, 0, c.diag _ ha, c.diag _ hb, by omega⟩)
    · exact .inr (.inr ⟨.inl rfl, .inl rfl, 0, 0, c.diag _ hb, c.diag _ ha, by omega⟩)
  | k + 1, hd, i, j, z, hz => by
    have hd' : ∀ l, l < k → fw (Lw W a b e f) l l l = some 0 := fun l hl => hd l (by omega)
    have ih := up_fw c ha hb hne k hd'
    have hz' : comb (fw (Lw W a b e f) k) k i j = some z := hz
    cases hm : fw (Lw W a b e f) k i j with
    | some m =>
      obtain ⟨z2, h1, h2⟩ := comb_le (k := k) hm
      rw [hz'] at h1
      have := Option.some.inj h1
      exact (ih i j m hm).mono (by omega)
    | none =>
      rcases comb_or hz' with h | ⟨u, v, hu, hv, rfl⟩
      · rw [hm] at h; cases h
      · have no : ∀ w, W i j = some w → False := fun w hw => by
          obtain ⟨z, h1, _⟩ := fwl_w (a := a) (b := b) (e := e) (f := f) k hw
          rw [hm] at h1; cases h1
        have noe : ∀ x y, (i = a ∨ a < k) → (j = b ∨ b < k) → W i a = some x → W b j = some y → False := fun x y p q hx hy => by
          obtain ⟨z, h1⟩ := fwl_hase hne hd' p q hx hy
          rw [hm] at h1; cases h1
        have nof : ∀ x y, (i = b ∨ b < k) → (j = a ∨ a < k) → W i b = some x → W a j = some y → False := fun x y p q hx hy => by
          obtain ⟨z, h1⟩ := fwl_hasf hd' p q hx hy
          rw [hm] at h1; cases h1
        rcases ih i k u hu with ⟨w1, p1, p2⟩ | ⟨p1, p2, x1, y1, p3, p4, p5⟩ | ⟨p1, p2, x1, y1, p3, p4, p5⟩
        · rcases ih k j v hv with ⟨w2, q1, q2⟩ | ⟨q1, q2, x2, y2, q3, q4, q5⟩ | ⟨q1, q2, x2, y2, q3, q4, q5⟩
          · obtain ⟨t, t1, _⟩ := c.via p1 q1
            exact (no t t1).elim
          · obtain ⟨t, t1, t2⟩ := c.via p1 q3
            rcases q1 with rfl | q1
            · have hz0 := (q3.symm.trans (c.diag _ ha)); have := Option.some.inj hz0; exact .inr (.inl ⟨.inr (by omega), by omega, w1, y2, p1, q4, by omega⟩)
            · exact (noe t y2 (.inr q1) q2 t1 q4).elim
          · obtain ⟨t, t1, t2⟩ := c.via p1 q3
            rcases q1 with rfl | q1
            · have hz0 := (q3.symm.trans (c.diag _ hb)); have := Option.some.inj hz0; exact .inr (.inr ⟨.inr (by omega), by omega, w1, y2, p1, q4, by omega⟩)
            · exact (nof t y2 (.inr q1) q2 t1 q4).elim
        · rcases ih k j v hv with ⟨w2, q1, q2⟩ | ⟨q1, q2, x2, y2, q3, q4, q5⟩ | ⟨q1, q2, x2, y2, q3, q4, q5⟩
          · obtain ⟨t, t1, t2⟩ := c.via p4 q1
            rcases p2 with rfl | p2
            · have hz0 := (p4.symm.trans (c.diag _ hb)); have := Option.some.inj hz0; exact .inr (.inl ⟨by omega, .inr (by omega), x1, w2, p3, q1, by omega⟩)
            · exact (noe x1 t p1 (.inr p2) p3 t1).elim
          · exact (noe x1 y2 p1 q2 p3 q4).elim
          · obtain ⟨t, t1, _⟩ := c.via p3 q4
            exact (no t t1).elim
        · rcases ih k j v hv with ⟨w2, q1, q2⟩ | ⟨q1, q2, x2, y2, q3, q4, q5⟩ | ⟨q1, q2, x2, y2, q3, q4, q5⟩
          · obtain ⟨t, t1, t2⟩ := c.via p4 q1
            rcases p2 with rfl | p2
            · have hz0 := (p4.symm.trans (c.diag _ ha)); have := Option.some.inj hz0; exact .inr (.inr ⟨by omega, .inr (by omega), x1, w2, p3, q1, by omega⟩)
            · exact (nof x1 t p1 (.inr p2) p3 t1).elim
          · obtain ⟨t, t1, _⟩ := c.via p3 q4
            exact (no t t1).elim
          · exact (nof x1 y2 p1 q2 p3 q4).elim
theorem low_fw (c : Cl n W) (hne : a ≠ b) : ∀ k, k ≤ a → k ≤ b → LeM (Lw W a b e f) (fw (Lw W a b e f) k)
  | 0, _, _ => LeM.refl _
  | k + 1, h1, h2 => fun i j z hz => by
    have ih := low_fw c hne k (by omega) (by omega)
    rcases comb_or (show comb (fw (Lw W a b e f) k) k i j = some z from hz) with h | ⟨u, v, hu, hv, rfl⟩
    · exact ih _ _ _ h
    · obtain ⟨u', u1, u2⟩ := ih _ _ _ hu
      obtain ⟨v', v1, v2⟩ := ih _ _ _ hv
      rcases Lw_or hne u1 with u3 | ⟨_, hk, _⟩ | ⟨_, hk, _⟩
      · rcases Lw_or hne v1 with v3 | ⟨hk, _, _⟩ | ⟨hk, _, _⟩
        · obtain ⟨t, t1, t2⟩ := c.via u3 v3
          obtain ⟨y, y1, y2⟩ := Lw_w (a := a) (b := b) (e := e) (f := f) t1
          exact ⟨y, y1, by omega⟩
        · omega
        · omega
      · omega
      · omega
theorem fit_fw (c : Cl n W) (ha : a < n) (hb : b < n) (hne : a ≠ b) (ef : 0 ≤ e + f) {k : Nat} (hk : a < k ∨ b < k) (hd : ∀ l, l < k → fw (Lw W a b e f) l l l = some 0) (h0 : ∀ i, i < n → fw (Lw W a b e f) k i i = some 0) : Fit n W a b e f := by
  obtain ⟨te, e1, e2⟩ := fwl_e (W := W) (e := e) (f := f) hne k
  obtain ⟨tf, f1, f2⟩ := fwl_f (W := W) (a := a) (b := b) (e := e) (f := f) k
  refine ⟨c, ha, hb, hne, ef, fun z hz => ?_, fun z hz => ?_⟩
  · obtain ⟨y, y1, y2⟩ := fwl_w (a := a) (b := b) (e := e) (f := f) k hz
    rcases hk with hk | hk
    · obtain ⟨r, r1, r2⟩ := fw_closed k hd hk y1 e1
      rw [h0 b hb] at r1
      have := Option.some.inj r1
      omega
    · obtain ⟨r, r1, r2⟩ := fw_closed k hd hk e1 y1
      rw [h0 a ha] at r1
      have := Option.some.inj r1
      omega
  · obtain ⟨y, y1, y2⟩ := fwl_w (a := a) (b := b) (e := e) (f := f) k hz
    rcases hk with hk | hk
    · obtain ⟨r, r1, r2⟩ := fw_closed k hd hk f1 y1
      rw [h0 b hb] at r1
      have := Option.some.inj r1
      omega
    · obtain ⟨r, r1, r2⟩ := fw_closed k hd hk y1 f1
      rw [h0 a ha] at r1
      have := Option.some.inj r1
      omega
end
end Go.Proofs.YtlkpikdfbodhoaaDoor
/- A closed net with two moves: the document's rounds stay small, and end where the program ends. -/
namespace Go.Proofs.YtlkpikdfbodhoaaDoor
open Go Go.Em Go.Em.Net
set_option maxRecDepth 100000
section
variable {n : Nat} {W : Mx} {a b : Nat} {e f : Int}
theorem lw_diag (c : Cl n W) (hne : a ≠ b) {i : Nat} (hi : i < n) : Lw W a b e f i i = some 0 := by
  unfold Lw setM
  rw [if_neg (fun k => hne (k.2.symm.trans k.1)), if_neg (fun k => hne (k.1.symm.trans k.2))]
  exact c.diag i hi
theorem lw_out (c : Cl n W) (ha : a < n) (hb : b < n) (hne : a ≠ b) : Out n (Lw W a b e f) := fun i j hij => by
  cases k : Lw W a b e f i j with
  | none => rfl
  | some z =>
    refine absurd ?_ hij
    rcases Lw_or hne k with k | ⟨rfl, rfl, _⟩ | ⟨rfl, rfl, _⟩
    · exact c.lt k
    · exact ⟨ha, hb⟩
    · exact ⟨hb, ha⟩
theorem up_bd (hW : ∀ i j z, W i j = some z → -40000000 ≤ z ∧ z ≤ 40000000) (he : e ≤ 100000) (hf : f ≤ 100000) {k i j : Nat} {z : Int} (h : UpB W a b e f k i j z) : z ≤ 80100000 := by
  rcases h with ⟨w, h1, h2⟩ | ⟨_, _, x, y, h3, h4, h5⟩ | ⟨_, _, x, y, h3, h4, h5⟩
  · have := hW _ _ _ h1; omega
  · have := hW _ _ _ h3; have := hW _ _ _ h4; omega
  · have := hW _ _ _ h3; have := hW _ _ _ h4; omega
theorem fit_low (ft : Fit n W a b e f) (hW : ∀ i j z, W i j = some z → -40000000 ≤ z ∧ z ≤ 40000000) (he : -100000 ≤ e) (hf : -100000 ≤ f) (k : Nat) {i j : Nat} {z : Int} (h : fw (Lw W a b e f) k i j = some z) : -80100000 ≤ z := by
  obtain ⟨l1, l2, l3⟩ := ft.le_net
  obtain ⟨y, y1, y2⟩ := ft.closed.fw (le_Lw ft.ne l1 l2 l3) k _ _ _ h
  rcases Fw_or y1 with k | ⟨x, y, k1, k2, rfl⟩ | ⟨x, y, k1, k2, rfl⟩
  · have := hW _ _ _ k; omega
  · have := hW _ _ _ k1; have := hW _ _ _ k2; omega
  · have := hW _ _ _ k1; have := hW _ _ _ k2; omega
theorem bt_fw (c : Cl n W) (ha : a < n) (hb : b < n) (hne : a ≠ b) (ef : 0 ≤ e + f) (hW : ∀ i j z, W i j = some z → -40000000 ≤ z ∧ z ≤ 40000000) (he : -100000 ≤ e ∧ e ≤ 100000) (hf : -100000 ≤ f ∧ f ≤ 100000) : ∀ k, k < n → (∀ q, q ≤ k → ∀ i, i < n → fw (Lw W a b e f) q i i = some 0) → Bt (fw (Lw W a b e f) k) ∧ Bt (comb (fw (Lw W a b e f) k) k) := fun k hk hd => by
  have hl : ∀ l, l < k + 1 → fw (Lw W a b e f) l l l = some 0 := fun l hl => hd l (by omega) l (by omega)
  have u1 := up_fw (e := e) (f := f) c ha hb hne k (fun l h => hl l (by omega))
  have u2 := up_fw (e := e) (f := f) c ha hb hne (k + 1) hl
  by_cases hp : a < k ∨ b < k
  · have ft := fit_fw c ha hb hne ef hp (fun l h => hl l (by omega)) (hd k (Nat.le_refl _))
    refine ⟨fun i j z hz => ?_, fun i j z hz => ?_⟩
    · have := up_bd hW he.2 hf.2 (u1 i j z hz)
      have := fit_low ft hW he.1 hf.1 k hz
      omega
    · have := up_bd hW he.2 hf.2 (u2 i j z hz)
      have := fit_low ft hW he.1 hf.1 (k + 1) (show fw (Lw W a b e f) (k + 1) i j = some z from hz)
      omega
  · have lo := low_fw (e := e) (f := f) c hne k (by omega) (by omega)
    have b1 : ∀ i j z, fw (Lw W a b e f) k i j = some z → -40100000 ≤ z := fun i j z hz => by
      obtain ⟨y, y1, y2⟩ := lo _ _ _ hz
      rcases Lw_or hne y1 with k | ⟨_, _, rfl⟩ | ⟨_, _, rfl⟩
      · have := hW _ _ _ k; omega
      · omega
      · omega
    refine ⟨fun i j z hz => ?_, fun i j z hz => ?_⟩
    · have := up_bd hW he.2 hf.2 (u1 i j z hz)
      have := b1 i j z hz
      omega
    · have := up_bd hW he.2 hf.2 (u2 i j z hz)
      rcases comb_or hz with h | ⟨u, v, hu, hv, rfl⟩
      · have := b1 i j z h; omega
      · have := b1 _ _ _ hu
        have := b1 _ _ _ hv
        omega
theorem fit_diag (ft : Fit n W a b e f) (k : Nat) {i : Nat} (hi : i < n) : fw (Lw W a b e f) k i i = some 0 := by
  obtain ⟨l1, l2, l3⟩ := ft.le_net
  obtain ⟨z, h3, h4⟩ := fw_mono 0 k (show fw (Lw W a b e f) 0 i i = some 0 from lw_diag ft.cl ft.ne hi)
  rw [Nat.zero_add] at h3
  obtain ⟨y, y1, y2⟩ := ft.closed.fw (le_Lw ft.ne l1 l2 l3) k _ _ _ h3
  rw [ft.closed.diag i hi] at y1
  have := Option.some.inj y1
  rw [h3]; congr 1; omega
theorem fit_end (ft : Fit n W a b e f) : fw (Lw W a b e f) n = comb (comb (Lw W a b e f) a) b := by
  rw [ft.over]
  obtain ⟨l1, l2, l3⟩ := ft.le_net
  have hd : ∀ l, l < n → fw (Lw W a b e f) l l l = some 0 := fun l hl => fit_diag ft l hl
  have ho := (lw_out (e := e) (f := f) ft.cl ft.ha ft.hb ft.ne).fw n (Nat.le_refl _)
  have cl : Cl n (fw (Lw W a b e f) n) := ⟨fun i hi => fit_diag ft n hi, fun {i l j x y} h1 h2 => by
    have hl : l < n := Decidable.byContradiction fun hn => by rw [ho i l (fun q => hn q.2)] at h1; cases h1
    exact fw_closed n hd hl h1 h2, ho⟩
  refine LeM.anti (ft.most cl (fun i j z hz => fwl_w n hz) (fwl_e ft.ne n) (fwl_f n)) (ft.closed.fw (le_Lw ft.ne l1 l2 l3) n)
theorem diag_fit (c : Cl n W) (ha : a < n) (hb : b < n) (hne : a ≠ b) (ef : 0 ≤ e + f) (hd : ∀ q, q ≤ n → ∀ i, i < n → fw (Lw W a b e f) q i i = some 0) : Fit n W a b e f :=
  fit_fw c ha hb hne ef (.inl ha) (fun l hl => hd l (by omega) l hl) (hd n (Nat.le_refl _))
end
end Go.Proofs.YtlkpikdfbodhoaaDoor
/- Grow, by the document: over all its marks, and the answer. -/
namespace Go.Proofs.YtlkpikdfbodhoaaDoor
open Go Go.Em Go.Em.Net
set_option maxRecDepth 100000
def k20w : Cd :=
  .seq (.seq (.region [⟨none, some 152, .inl (.ld true 2 (.s 6))⟩,
 ⟨none, some 153, .inr (.fn 66 [(.s 152)])⟩,
 ⟨none, some 154, .inl (.not (.s 153))⟩])
 (.cond (.s 154) (.seq (.region [⟨none, some 155, .inl (.bld [(.slice none 0 0), (.slice none 0 0)] [])⟩,
 ⟨none, none, .inl (.st 2 (.s 4) (.s 155))⟩,
 ⟨none, some 5, .inl (.mv (.c (.int .i64 25)))⟩])
 (.ret))
 (.skip)))
 (.seq (.seq (.region [⟨none, some 156, .inl (.fa (.s 6) 0)⟩,
 ⟨none, some 157, .inl (.ld false 1 (.s 156))⟩,
 ⟨none, some 158, .inl (.len (.s 157))⟩,
 ⟨none, some 159, .inl (.mv (.c (.int .i64 0)))⟩])
 (.block 4 (.loop k20l3)))
 (.seq (.region [⟨none, some 182, .inl (.ld true 2 (.s 6))⟩,
 ⟨none, none, .inl (.st 2 (.s 4) (.s 182))⟩,
 ⟨none, some 5, .inl (.mv (.c (.int .i64 0)))⟩])
 (.ret)))
def k20x : Cd :=
  .seq (.draw [⟨⟨none, some 133, .inl (.fa (.s 6) 1)⟩, some [], [], 0, false⟩,
 ⟨⟨none, some 134, .inl (.ld false 1 (.s 133))⟩, some [], [], 1, false⟩,
 ⟨⟨none, some 135, .inl (.mv (.s 15))⟩, some [], [], 0, false⟩,
 ⟨⟨none, some 136, .inl (.ias 1 (.s 134) (.s 135))⟩, some [], [], 7, false⟩,
 ⟨⟨none, some 137, .inl (.ld false 1 (.s 136))⟩, some [], [], 15, false⟩,
 ⟨⟨none, some 138, .inl (.mv (.s 14))⟩, some [], [], 0, false⟩,
 ⟨⟨none, some 139, .inl (.fa (.s 6) 1)⟩, some [], [], 0, false⟩,
 ⟨⟨none, some 140, .inl (.ld false 1 (.s 139))⟩, some [], [], 64, false⟩,
 ⟨⟨none, some 141, .inl (.mv (.s 15))⟩, some [], [], 0, false⟩,
 ⟨⟨none, some 142, .inl (.ias 1 (.s 140) (.s 141))⟩, some [], [], 448, false⟩,
 ⟨⟨none, some 143, .inl (.ld false 1 (.s 142))⟩, some [], [], 960, false⟩,
 ⟨⟨none, some 144, .inl (.mv (.s 14))⟩, some [], [], 0, false⟩,
 ⟨⟨none, some 145, .inl (.ias 1 (.s 143) (.s 144))⟩, some [], [], 4032, false⟩,
 ⟨⟨none, some 146, .inl (.ld false 1 (.s 145))⟩, some [], [], 8128, false⟩,
 ⟨⟨none, some 147, .inl (.fa (.s 3) 2)⟩, some [], [], 0, false⟩,
 ⟨⟨none, some 148, .inl (.ld false 1 (.s 147))⟩, some [], [], 16384, false⟩,
 ⟨⟨none, some 149, .inl (.neg (.s 148))⟩, some [], [], 49152, false⟩,
 ⟨⟨none, some 150, .inl (.mm false (.s 146) (.s 149))⟩, some [], [], 131008, false⟩,
 ⟨⟨none, some 151, .inl (.ias 1 (.s 137) (.s 138))⟩, some [], [], 262143, false⟩,
 ⟨⟨none, none, .inl (.st 1 (.s 151) (.s 150))⟩, (some [.at 137]), [], 524287, false⟩])
  k20w
def k20v : Cd :=
  .seq (.draw [⟨⟨none, some 115, .inl (.fa (.s 6) 1)⟩, some [], [], 0, false⟩,
 ⟨⟨none, some 116, .inl (.ld false 1 (.s 115))⟩, some [], [], 1, false⟩,
 ⟨⟨none, some 117, .inl (.mv (.s 14))⟩, some [], [], 0, false⟩,
 ⟨⟨none, some 118, .inl (.ias 1 (.s 116) (.s 117))⟩, some [], [], 7, false⟩,
 ⟨⟨none, some 119, .inl (.ld false 1 (.s 118))⟩, some [], [], 15, false⟩,
 ⟨⟨none, some 120, .inl (.mv (.s 15))⟩, some [], [], 0, false⟩,
 ⟨⟨none, some 121, .inl (.fa (.s 6) 1)⟩, some [], [], 0, false⟩,
 ⟨⟨none, some 122, .inl (.ld false 1 (.s 121))⟩, some [], [], 64, false⟩,
 ⟨⟨none, some 123, .inl (.mv (.s 14))⟩, some [], [], 0, false⟩,
 ⟨⟨none, some 124, .inl (.ias 1 (.s 122) (.s 123))⟩, some [], [], 448, false⟩,
 ⟨⟨none, some 125, .inl (.ld false 1 (.s 124))⟩, some [], [], 960, false⟩,
 ⟨⟨none, some 126, .inl (.mv (.s 15))⟩, some [], [], 0, false⟩,
 ⟨⟨none, some 127, .inl (.ias 1 (.s 125) (.s 126))⟩, some [], [], 4032, false⟩,
 ⟨⟨none, some 128, .inl (.ld false 1 (.s 127))⟩, some [], [], 8128, false⟩,
 ⟨⟨none, some 129, .inl (.fa (.s 3) 3)⟩, some [], [], 0, false⟩,
 ⟨⟨none, some 130, .inl (.ld false 1 (.s 129))⟩, some [], [], 16384, false⟩,
 ⟨⟨none, some 131, .inl (.mm false (.s 128) (.s 130))⟩, some [], [], 65472, false⟩,
 ⟨⟨none, some 132, .inl (.ias 1 (.s 119) (.s 120))⟩, some [], [], 131071, false⟩,
 ⟨⟨none, none, .inl (.st 1 (.s 132) (.s 131))⟩, (some [.at 119]), [], 262143, false⟩])
  k20x
def k20u : Cd :=
  .seq (.region [⟨none, some 105, .inl (.fa (.s 6) 0)⟩,
 ⟨none, some 106, .inl (.ld false 1 (.s 105))⟩,
 ⟨none, some 107, .inl (.fa (.s 3) 0)⟩,
 ⟨none, some 108, .inl (.ld false 1 (.s 107))⟩,
 ⟨none, some 109, .inr (.fn 56 [(.s 106), (.s 108)])⟩,
 ⟨none, some 14, .inl (.mv (.s 109))⟩])
 (.seq (.region [⟨none, some 110, .inl (.fa (.s 6) 0)⟩,
 ⟨none, some 111, .inl (.ld false 1 (.s 110))⟩,
 ⟨none, some 112, .inl (.fa (.s 3) 1)⟩,
 ⟨none, some 113, .inl (.ld false 1 (.s 112))⟩,
 ⟨none, some 114, .inr (.fn 56 [(.s 111), (.s 113)])⟩,
 ⟨none, some 15, .inl (.mv (.s 114))⟩])
  k20v)
def k20t : Cd :=
  .seq (.seq (.region [⟨none, some 43, .inl (.fa (.s 6) 0)⟩,
 ⟨none, some 44, .inl (.ld false 1 (.s 43))⟩,
 ⟨none, some 45, .inl (.len (.s 44))⟩,
 ⟨none, some 46, .inl (.mv (.c (.int .i64 0)))⟩])
 (.block 0 (.loop k20l1)))
  k20u
theorem k20_eq : k20 = .seq (.region [⟨none, some 2, .inl (.box 40 2 (.s 0))⟩,
 ⟨none, some 3, .inl (.box 42 5 (.s 1))⟩,
 ⟨none, some 4, .inl (.alloc 40 [(.slice none 0 0), (.slice none 0 0)])⟩,
 ⟨none, some 5, .inl (.mv (.c (.int .i64 0)))⟩])
 (.seq (.seq (.region [⟨none, some 19, .inl (.ld true 2 (.s 2))⟩,
 ⟨none, some 20, .inr (.fn 64 [(.s 19)])⟩,
 ⟨none, some 21, .inl (.not (.s 20))⟩])
 (.cond (.s 21) (.seq (.region [⟨none, some 22, .inl (.bld [(.slice none 0 0), (.slice none 0 0)] [])⟩,
 ⟨none, none, .inl (.st 2 (.s 4) (.s 22))⟩,
 ⟨none, some 5, .inl (.mv (.c (.int .i64 22)))⟩])
 (.ret))
 (.skip)))
 (.seq (.seq (.region [⟨none, some 23, .inl (.ld true 5 (.s 3))⟩,
 ⟨none, some 24, .inr (.fn 28 [(.s 23)])⟩,
 ⟨none, some 25, .inl (.bin .neq (.s 24) (.c (.int .i64 0)))⟩])
 (.cond (.s 25) (.seq (.region [⟨none, some 26, .inl (.bld [(.slice none 0 0), (.slice none 0 0)] [])⟩,
 ⟨none, none, .inl (.st 2 (.s 4) (.s 26))⟩,
 ⟨none, some 5, .inl (.mv (.c (.int .i64 20)))⟩])
 (.ret))
 (.skip)))
 (.seq (.draw [⟨⟨none, some 27, .inl (.bs 3 1 0 [(.int .i64 0)] [])⟩, (some [.fr 27]), [.fr 6], 0, false⟩,
 ⟨⟨none, some 28, .inl (.fa (.s 2) 0)⟩, some [], [], 0, false⟩,
 ⟨⟨none, some 29, .inl (.ld false 1 (.s 28))⟩, some [], [.fr 27, .fr 6], 2, false⟩,
 ⟨⟨none, some 30, .inl (.app 3 1 8 (.s 27) (.s 29))⟩, (some [.fr 30, .fr 27]), [.fr 6], 7, false⟩,
 ⟨⟨none, some 31, .inl (.fa (.s 3) 0)⟩, some [], [], 0, false⟩,
 ⟨⟨none, some 32, .inl (.ld false 1 (.s 31))⟩, some [], [.fr 27, .fr 30, .fr 6], 16, false⟩,
 ⟨⟨none, some 33, .inr (.fn 65 [(.s 30), (.s 32)])⟩, (some [.fr 30, .fr 27]), [.fr 6], 63, false⟩,
 ⟨⟨none, some 34, .inl (.fa (.s 3) 1)⟩, some [], [], 0, false⟩,
 ⟨⟨none, some 35, .inl (.ld false 1 (.s 34))⟩, some [], [.fr 27, .fr 30, .fr 6], 128, false⟩,
 ⟨⟨none, some 36, .inr (.fn 65 [(.s 33), (.s 35)])⟩, some [], [.fr 6], 511, false⟩,
 ⟨⟨none, some 37, .inl (.bld [(.slice none 0 0), (.slice none 0 0)] [(0, 1, (.s 36))])⟩, some [], [], 1023, false⟩,
 ⟨⟨none, some 6, .inl (.alloc 40 [(.slice none 0 0), (.slice none 0 0)])⟩, (some [.fr 6]), [.fr 27, .fr 30], 0, false⟩,
 ⟨⟨none, none, .inl (.st 2 (.s 6) (.s 37))⟩, (some [.fr 6]), [], 4095, false⟩])
 (.seq (.seq (.region [⟨none, some 38, .inl (.fa (.s 6) 0)⟩,
 ⟨none, some 39, .inl (.ld false 1 (.s 38))⟩,
 ⟨none, some 40, .inl (.len (.s 39))⟩,
 ⟨none, some 41, .inl (.bin .gtr (.s 40) (.c (.int .i64 64)))⟩])
 (.cond (.s 41) (.seq (.region [⟨none, some 42, .inl (.bld [(.slice none 0 0), (.slice none 0 0)] [])⟩,
 ⟨none, none, .inl (.st 2 (.s 4) (.s 42))⟩,
 ⟨none, some 5, .inl (.mv (.c (.int .i64 2)))⟩])
 (.ret))
 (.skip)))
  k20t)))) := rfl

theorem only_gw {M' : List Int} {B B' : Nat → Nat → Int} {mb b6 : Nat} {ks : List Nat} {h h' : Heap} (t : GwH M' B mb b6 ks h) (h6 : b6 < h.next) (o : Only ks h h') (m : Mat M'.length B' mb ks h') (f : h'.Fr) : GwH M' B' mb b6 ks h' := by
  have k6 : b6 ∉ ks := fun hq => by
    obtain ⟨j, hj, e⟩ := List.getElem_of_mem hq
    have := t.mat.row j hj
    rw [e, t.g6] at this; cases this
  have k4 : 4 ∉ ks := fun hq => by
    obtain ⟨j, hj, e⟩ := List.getElem_of_mem hq
    have := t.mat.row j hj
    rw [e, t.g4] at this; cases this
  exact ⟨m, by rw [o.get h6 k6]; exact t.g6, by rw [o.get t.n4 k4]; exact t.g4, by have := o.1; have := t.n4; omega, f⟩
theorem frz_matN {h : Heap} {n d mb : Nat} {ks : List Nat} {A : Nat → Nat → Int} (m : Mat n A mb ks h) : frz h (d + 3) (.slr mb 0 n 1 none) = some (rowsD n A, mb :: ks) := by
  have e := frz_mat (d := d) m
  rw [show rowS n mb = D.slr mb 0 n 1 (some n) from rfl, frz_slr] at e
  rw [frz_slr]; exact e
set_option maxHeartbeats 16000000 in
theorem rg_w {M' : List Int} (hl : M'.length ≤ 64) {W : Mx} {p q : Nat} {e f : Int} (c : Cl M'.length W) (ha : p < M'.length) (hb : q < M'.length) (hne : p ≠ q) (ef : 0 ≤ e + f) (hW : ∀ i j z, W i j = some z → -40000000 ≤ z ∧ z ≤ 40000000) (he : -100000 ≤ e ∧ e ≤ 100000) (hf : -100000 ≤ f ∧ f ≤ 100000) {mb b6 : Nat} {ks : List Nat} {h : Heap} (t : GwH M' (encM (Lw W p q e f)) mb b6 ks h) (h6 : b6 < h.next) (n46 : 4 < b6) (y : Env 183) (v4 : y.v 4 = .ptr 4 0) (v6 : y.v 6 = .ptr b6 0) {n : Nat} (hn : 1000 ≤ n) :
    (Fit M'.length W p q e f → endK (rc pg n) [(.cell 4 40, true, 2), (.tmp 5, false, 0)] (k20w.ev ⟨pg, 183, none⟩ (rc pg n) ⟨y.l, h, []⟩) = some (.ret (if inA M'.length (encM (comb (comb (Lw W p q e f) p) q)) = true then .tup [nD M' (encM (comb (comb (Lw W p q e f) p) q)), D.int 0] else .tup [nilN, D.int 2]))) ∧ (¬ Fit M'.length W p q e f → endK (rc pg n) [(.cell 4 40, true, 2), (.tmp 5, false, 0)] (k20w.ev ⟨pg, 183, none⟩ (rc pg n) ⟨y.l, h, []⟩) = some (.ret (.tup [nilN, D.int 25]))) := by
  have t1 := t.bump 183
  obtain ⟨d, h1, r1, o1, f1, hc⟩ := srt_shG M' rfl hl (fun i hi => lw_diag (e := e) (f := f) c hne hi) (lw_out c ha hb hne) (bt_fw c ha hb hne ef hW he hf) (ks := ks) none t1.mat t1.fr (f := n) (by omega)
  have c1 := call_sh (pg := pg) (f := 66) rfl r1
  have g6 := t.g6
  have g4 := t.g4
  simp only [nil2] at g4
  have x6 : (4 = b6) = False := by simp; omega
  simp only [intsD] at g6 c1
  constructor
  · intro ft
    rcases hc with ⟨rfl, m1, _⟩ | ⟨rfl, _, k, i, hk, hi, hno⟩
    · rw [fit_end ft] at m1
      obtain ⟨G, hG⟩ : ∃ G, G = comb (comb (Lw W p q e f) p) q := ⟨_, rfl⟩
      rw [← hG] at m1 ⊢
      have t2 := only_gw t1 (by simp; omega) o1 m1 f1
      have t3 := t2.bump 183
      have g62 := t2.g6
      have g42 := t2.g4
      simp only [intsD] at g62
      simp only [nil2] at g42
      simp [k20w, v4, v6, g6, c1, g62, D.cells, D.one, ev_loop]
      refine Res.endsAfter (lp_rule 200 (GlI M' (encM G) mb b6 ks) _ (gl_round hl (encM G) mb b6 ks) M'.length n _ (by omega) ⟨_, _, 0, rfl, by omega, by simp [v4], by simp [v6], by simp, by simp, by repeat' first | exact t2 | apply GwH.bump, rfl⟩) ?_
      rintro x s (⟨rfl, ho, x, h2, rfl, u4, u6, t4⟩ | ⟨rfl, ho, x, h2, rfl, u4, u5, g43⟩)
      · rw [if_pos ho]
        have g64 := t4.g6
        have g44 := t4.g4
        simp only [intsD] at g64
        simp only [nil2] at g44
        obtain ⟨H, hH⟩ : ∃ H, H = (h2.bump 183).set 4 (some (.cells 40 [.sl false (M'.map D.int), .slr mb 0 M'.length 1 none])) := ⟨_, rfl⟩
        have hm4 : ∀ j, ∀ hj : j < ks.length, ks[j] ≠ 4 := fun j hj e => by
          have := t4.mat.row j hj
          rw [e, t4.g4] at this; cases this
        have hmb4 : mb ≠ 4 := fun e => by
          have := t4.mat.top
          rw [e, t4.g4] at this; cases this
        have gH4 : H.get 4 = some (.cells 40 [.sl false (M'.map D.int), .slr mb 0 M'.length 1 none]) := by rw [hH]; simp
        have z2 : frz H 22 (D.slr mb 0 M'.length 1 none) = _ := frz_matN (n := M'.length) (A := encM G) (ks := ks) (d := 19) (by
          rw [hH]
          refine ⟨t4.mat.len, by simp [hmb4, t4.mat.top], t4.mat.nd, fun q hq => by have := t4.mat.lt q hq; simp; omega, fun j hj => ?_, by have := t4.mat.mlt; simp; omega⟩
          simp [hm4 j hj, t4.mat.row j hj])
        have hc1 := ints_canonL M'
        simp [-frz_slr, u4, u6, g64, g44, D.cells, D.one, ← hH, gH4, z2, hc1]
        simp [nD, intsD]
      · rw [ho]
        simp only [nil2] at g43
        simp [u4, u5, g43, nilN]
    · exact absurd (fit_diag ft k hi) hno
  · intro nf
    rcases hc with ⟨rfl, m1, hd⟩ | ⟨rfl, ⟨B, m1⟩, _⟩
    · exact absurd (diag_fit c ha hb hne ef hd) nf
    · have t2 := only_gw t1 (by simp; omega) o1 m1 f1
      have g42 := t2.g4
      simp only [nil2] at g42
      simp [k20w, v4, v6, g6, c1, g42, D.cells, D.one, nilN]
end Go.Proofs.YtlkpikdfbodhoaaDoor
/- Grow, by the document: the two moves. -/
namespace Go.Proofs.YtlkpikdfbodhoaaDoor
open Go Go.Em Go.Em.Net
set_option maxRecDepth 100000
theorem GwH.put {M' : List Int} {B : Nat → Nat → Int} {mb b6 : Nat} {ks : List Nat} {h : Heap} (t : GwH M' B mb b6 ks h) {p q r : Nat} (hp : p < M'.length) (hq : q < M'.length) (v : Int) (hr : ∀ hj : p < ks.length, ks[p] = r) {cs : List D} (hcs : cs = yCs M'.length (updI (B p) q v)) : GwH M' (updA B p q v) mb b6 ks (h.set r (some (.cells 3 cs))) := by
  have hlk := t.mat.len
  have hp' : p < ks.length := by omega
  have hrk : r ∈ ks := by rw [← hr hp']; exact List.getElem_mem _
  have hrow := t.mat.row p hp'
  rw [hr hp'] at hrow
  have n6 : b6 ≠ r := fun e => by have := t.g6; rw [e, hrow] at this; cases this
  have n4 : 4 ≠ r := fun e => by have := t.g4; rw [e, hrow] at this; cases this
  have e1 : updA B p q v p = updI (B p) q v := by funext x; unfold updA updI; simp
  refine ⟨t.mat.put (B := updA B p q v) hp hr (by simp [hcs, e1]) (fun z _ hz => by simp [hz]) (by simp) (fun a ha => by funext x; unfold updA; simp [ha]), by simp [n6, t.g6], by simp [n4, t.g4], by have := t.n4; simpa using this, t.fr.set _ (t.mat.lt r hrk).1⟩
theorem rn3 {M' : List Int} {B : Nat → Nat → Int} {mb b6 : Nat} {ks : List Nat} {h : Heap} {c : Clm} (t : GwH M' B mb b6 ks h) (g3 : h.get 3 = some (.cells 42 (clC c))) {r : Nat} (hr : r ∈ ks) : 3 ≠ r := fun e => by
  obtain ⟨j, hj, e2⟩ := List.getElem_of_mem hr
  have := t.mat.row j hj
  rw [e2, ← e, g3] at this; cases this
set_option maxHeartbeats 16000000 in
theorem rg_x {M' : List Int} {B : Nat → Nat → Int} {c : Clm} (hlo : -100000 ≤ c.lo ∧ c.lo ≤ 100000) {p q : Nat} (hp : p < M'.length) (hq : q < M'.length) {mb b6 : Nat} {ks : List Nat} {h : Heap} (t : GwH M' B mb b6 ks h) (h6 : b6 < h.next) (g3 : h.get 3 = some (.cells 42 (clC c))) (y : Env 183) (v3 : y.v 3 = .ptr 3 0) (v4 : y.v 4 = .ptr 4 0) (v6 : y.v 6 = .ptr b6 0) (v14 : y.v 14 = D.int p) (v15 : y.v 15 = D.int q) {n : Nat} {R : Option Out}
    (fin : ∀ (y : Env 183) (h : Heap), GwH M' (updA B q p (min (B q p) (-c.lo))) mb b6 ks h → b6 < h.next → y.v 4 = .ptr 4 0 → y.v 6 = .ptr b6 0 → endK (rc pg n) [(.cell 4 40, true, 2), (.tmp 5, false, 0)] (k20w.ev ⟨pg, 183, none⟩ (rc pg n) ⟨y.l, h, []⟩) = R) :
    endK (rc pg n) [(.cell 4 40, true, 2), (.tmp 5, false, 0)] (k20x.ev ⟨pg, 183, none⟩ (rc pg n) ⟨y.l, h, []⟩) = R := by
  obtain ⟨rq, r1, r2, r3, r4⟩ := t.mat.at hq
  have g6 := t.g6
  have htop := t.mat.top
  have hlk := t.mat.len
  have t' := (t.bump 183).put hq hp (min (B q p) (-c.lo)) r3 (cs := yCs M'.length (updI (B q) p (min (B q p) (-c.lo)))) rfl
  obtain ⟨L, hL⟩ : ∃ L, L = ks.map (rowS M'.length) := ⟨_, rfl⟩
  rw [← hL] at htop r1
  have hLl : L.length = M'.length := by rw [hL]; simp [hlk]
  simp only [intsD] at g6
  simp only [rowS] at r1
  simp only [clC] at g3
  have y2 := fun a => yCs_len M'.length a
  have q1 := fun A h' => yCs_at (n := M'.length) (y := A) hp h'
  have p1 : p + 1 ≤ M'.length := hp
  have p2 : q + 1 ≤ M'.length := hq
  have w1 : IntKind.i64.wrap (-c.lo) = -c.lo := wrap_i64 (by omega) (by omega)
  have hup := fun y v => yCs_upd hp y v
  simp [k20x, v3, v6, v14, v15, g3, g6, htop, r1, r4, hLl, hp, hq, y2, q1, p1, p2, w1, hup, D.cells, D.one]
  exact fin _ _ t' (by simp; omega) (by simp [v4]) (by simp [v6])
set_option maxHeartbeats 16000000 in
theorem rg_v {M' : List Int} {B : Nat → Nat → Int} {c : Clm} (hhi : -100000 ≤ c.hi ∧ c.hi ≤ 100000) {p q : Nat} (hp : p < M'.length) (hq : q < M'.length) {mb b6 : Nat} {ks : List Nat} {h : Heap} (t : GwH M' B mb b6 ks h) (h6 : b6 < h.next) (g3 : h.get 3 = some (.cells 42 (clC c))) (y : Env 183) (v3 : y.v 3 = .ptr 3 0) (v4 : y.v 4 = .ptr 4 0) (v6 : y.v 6 = .ptr b6 0) (v14 : y.v 14 = D.int p) (v15 : y.v 15 = D.int q) {n : Nat} {R : Option Out}
    (fin : ∀ (y : Env 183) (h : Heap), GwH M' (updA B p q (min (B p q) c.hi)) mb b6 ks h → b6 < h.next → h.get 3 = some (.cells 42 (clC c)) → y.v 3 = .ptr 3 0 → y.v 4 = .ptr 4 0 → y.v 6 = .ptr b6 0 → y.v 14 = D.int p → y.v 15 = D.int q → endK (rc pg n) [(.cell 4 40, true, 2), (.tmp 5, false, 0)] (k20x.ev ⟨pg, 183, none⟩ (rc pg n) ⟨y.l, h, []⟩) = R) :
    endK (rc pg n) [(.cell 4 40, true, 2), (.tmp 5, false, 0)] (k20v.ev ⟨pg, 183, none⟩ (rc pg n) ⟨y.l, h, []⟩) = R := by
  obtain ⟨rp, r1, r2, r3, r4⟩ := t.mat.at hp
  have n3 := rn3 t g3 r2
  have g6 := t.g6
  have htop := t.mat.top
  have hlk := t.mat.len
  have t' := (t.bump 183).put hp hq (min (B p q) c.hi) r3 (cs := yCs M'.length (updI (B p) q (min (B p q) c.hi))) rfl
  obtain ⟨L, hL⟩ : ∃ L, L = ks.map (rowS M'.length) := ⟨_, rfl⟩
  rw [← hL] at htop r1
  have hLl : L.length = M'.length := by rw [hL]; simp [hlk]
  simp only [intsD] at g6
  simp only [rowS] at r1
  simp only [clC] at g3
  have y2 := fun a => yCs_len M'.length a
  have q1 := fun A h' => yCs_at (n := M'.length) (y := A) hq h'
  have p1 : p + 1 ≤ M'.length := hp
  have p2 : q + 1 ≤ M'.length := hq
  have hup := fun y v => yCs_upd hq y v
  simp [k20v, v3, v6, v14, v15, g3, g6, htop, r1, r4, hLl, hp, hq, y2, q1, p1, p2, hup, D.cells, D.one]
  exact fin _ _ t' (by simp; omega) (by simp [n3, g3, clC]) (by simp [v3]) (by simp [v4]) (by simp [v6]) (by simp [v14]) (by simp [v15])
end Go.Proofs.YtlkpikdfbodhoaaDoor
