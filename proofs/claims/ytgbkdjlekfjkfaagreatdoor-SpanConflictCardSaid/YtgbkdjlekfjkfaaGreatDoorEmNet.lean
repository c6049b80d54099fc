/- Least bounds over ways: matrices that are lowered mark by mark (Floyd, Warshall), and years that are lowered round by round (Bellman, Ford): the one finds a contradiction when the other does. No bound is 'none'. -/
namespace Go.Em.Net
abbrev Mx := Nat → Nat → Option Int
def comb (M : Mx) (k i j : Nat) : Option Int := match M i k, M k j with
  | some a, some b => (match M i j with | some c => some (min c (a + b)) | none => some (a + b))
  | _, _ => M i j
theorem comb_or {M : Mx} {k i j : Nat} {z : Int} (h : comb M k i j = some z) : M i j = some z ∨ ∃ a b, M i k = some a ∧ M k j = some b ∧ z = a + b := by
  unfold comb at h
  split at h
  · rename_i a b ha hb
    split at h
    · rename_i c hc
      have h' := Option.some.inj h
      by_cases hm : c ≤ a + b
      · exact .inl (by rw [hc, ← h', Int.min_eq_left hm])
      · exact .inr ⟨a, b, ha, hb, by rw [← h', Int.min_eq_right (by omega)]⟩
    · exact .inr ⟨a, b, ha, hb, (Option.some.inj h).symm⟩
  · exact .inl h
theorem comb_le {M : Mx} {k i j : Nat} {c : Int} (h : M i j = some c) : ∃ z, comb M k i j = some z ∧ z ≤ c := by
  unfold comb
  split
  · exact ⟨_, by rw [h], by omega⟩
  · exact ⟨c, h, by omega⟩
theorem comb_via {M : Mx} {k i j : Nat} {a b : Int} (ha : M i k = some a) (hb : M k j = some b) : ∃ z, comb M k i j = some z ∧ z ≤ a + b := by
  unfold comb
  rw [ha, hb]
  cases h : M i j with
  | none => exact ⟨_, rfl, by omega⟩
  | some c => exact ⟨_, rfl, by omega⟩
theorem comb_row {M : Mx} {k : Nat} (hk : M k k = some 0) (j : Nat) : comb M k k j = M k j := by
  unfold comb
  rw [hk]
  cases h : M k j with
  | none => rfl
  | some c => simp
theorem comb_col {M : Mx} {k : Nat} (hk : M k k = some 0) (i : Nat) : comb M k i k = M i k := by
  unfold comb
  rw [hk]
  cases h : M i k with
  | none => rfl
  | some c => simp
def fw (E : Mx) : Nat → Mx
  | 0 => E
  | k + 1 => comb (fw E k) k
/-! ### In place -/
def setM (M : Mx) (i j : Nat) (v : Option Int) : Mx := fun a b => if a = i ∧ b = j then v else M a b
def rowT (k i : Nat) (M : Mx) : Nat → Mx
  | 0 => M
  | J + 1 => setM (rowT k i M J) i J (comb (rowT k i M J) k i J)
def stageT (n k : Nat) (M : Mx) : Nat → Mx
  | 0 => M
  | I + 1 => rowT k I (stageT n k M I) n
theorem rowT_eq {k i : Nat} {M : Mx} (hk : M k k = some 0) : ∀ J, rowT k i M J = fun a b => if a = i ∧ b < J then comb M k i b else M a b
  | 0 => by funext a b; simp [rowT]
  | J + 1 => by
    rw [rowT, rowT_eq hk J]
    funext a b
    unfold setM
    have e1 : (if i = i ∧ k < J then comb M k i k else M i k) = M i k := by rw [comb_col hk]; split <;> rfl
    have e2 : (if k = i ∧ J < J then comb M k i J else M k J) = M k J := by simp
    have e3 : (if i = i ∧ J < J then comb M k i J else M i J) = M i J := by simp
    have e : comb (fun a b => if a = i ∧ b < J then comb M k i b else M a b) k i J = comb M k i J := by
      show (match (if i = i ∧ k < J then comb M k i k else M i k), (if k = i ∧ J < J then comb M k i J else M k J) with
        | some a, some b => (match (if i = i ∧ J < J then comb M k i J else M i J) with | some c => some (min c (a + b)) | none => some (a + b))
        | _, _ => (if i = i ∧ J < J then comb M k i J else M i J)) = _
      rw [e1, e2, e3]
      rfl
    rw [e]
    by_cases h1 : a = i
    · subst h1
      by_cases h2 : b = J
      · subst h2; simp
      · have : (b < J + 1) = (b < J) := by simp; omega
        simp [h2, this]
    · simp [h1]
def Out (n : Nat) (M : Mx) : Prop := ∀ a b, ¬ (a < n ∧ b < n) → M a b = none
theorem Out.comb {n k : Nat} {M : Mx} (h : Out n M) (_hk : k < n) : Out n (comb M k) := by
  intro a b hab
  cases hc : Net.comb M k a b with
  | none => rfl
  | some z =>
    rcases comb_or hc with e | ⟨x, y, e1, e2, _⟩
    · rw [h a b hab] at e; cases e
    · have h1 : a < n := Decidable.byContradiction fun hn => by rw [h a k (by omega)] at e1; cases e1
      have h2 : b < n := Decidable.byContradiction fun hn => by rw [h k b (by omega)] at e2; cases e2
      exact absurd ⟨h1, h2⟩ hab
theorem Out.fw {n : Nat} {E : Mx} (h : Out n E) : ∀ k, k ≤ n → Out n (fw E k)
  | 0, _ => h
  | k + 1, hk => (Out.fw h k (by omega)).comb (by omega)
theorem row_full {n k i : Nat} {M : Mx} (hk : M k k = some 0) (ho : Out n M) (hkn : k < n) : rowT k i M n = fun a b => if a = i then comb M k i b else M a b := by
  rw [rowT_eq hk]
  funext a b
  by_cases h1 : a = i
  · subst h1
    by_cases h2 : b < n
    · simp [h2]
    · have := ho.comb hkn a b (by omega)
      simp [h2, this, ho a b (by omega)]
  · simp [h1]
theorem stageT_eq {n k : Nat} {M : Mx} (hk : M k k = some 0) (ho : Out n M) (hkn : k < n) : ∀ I, stageT n k M I = fun a b => if a < I then comb M k a b else M a b
  | 0 => by funext a b; simp [stageT]
  | I + 1 => by
    rw [stageT, stageT_eq hk ho hkn I]
    obtain ⟨N, hN⟩ : ∃ N : Mx, N = fun a b => if a < I then comb M k a b else M a b := ⟨_, rfl⟩
    rw [← hN]
    have rowk : ∀ b, N k b = M k b := fun b => by rw [hN]; simp only [comb_row hk]; split <;> rfl
    have rowi : ∀ b, N I b = M I b := fun b => by rw [hN]; simp
    have hNk : N k k = some 0 := by rw [rowk]; exact hk
    have hNo : Out n N := by
      intro a b hab
      rw [hN]
      simp only [ho a b hab, ho.comb hkn a b hab]
      split <;> rfl
    rw [row_full hNk hNo hkn]
    funext a b
    by_cases h1 : a = I
    · subst h1
      have : comb N k a b = comb M k a b := by unfold comb; rw [rowi, rowi, rowk]
      simp [this]
    · have : (a < I + 1) = (a < I) := by simp; omega
      simp only [h1, if_false, this, hN]
theorem stage_full {n k : Nat} {M : Mx} (hk : M k k = some 0) (ho : Out n M) (hkn : k < n) : stageT n k M n = comb M k := by
  rw [stageT_eq hk ho hkn]
  funext a b
  by_cases h : a < n
  · simp [h]
  · simp [h, ho a b (by omega), ho.comb hkn a b (by omega)]
/-! ### Ways -/
inductive Wk (E : Mx) (u : Nat) : Nat → Int → Prop
  | refl : Wk E u u 0
  | step {v x : Nat} {w c : Int} : Wk E u v w → E v x = some c → Wk E u x (w + c)
theorem Wk.trans {E : Mx} {u v : Nat} {a : Int} (h : Wk E u v a) : ∀ {x : Nat} {b : Int}, Wk E v x b → Wk E u x (a + b) := by
  intro x b h2
  induction h2 with
  | refl => simpa using h
  | step _ e ih => have := Wk.step ih e; rwa [Int.add_assoc] at this
theorem fw_way {E : Mx} : ∀ (k : Nat) {i j : Nat} {z : Int}, fw E k i j = some z → Wk E i j z
  | 0, i, j, z, h => by have := Wk.step (.refl (E := E) (u := i)) h; simpa using this
  | k + 1, i, j, z, h => by
    rcases comb_or h with e | ⟨a, b, e1, e2, rfl⟩
    · exact fw_way k e
    · exact (fw_way k e1).trans (fw_way k e2)
theorem way_pot {E : Mx} {p : Nat → Int} (hp : ∀ i j c, E i j = some c → p j ≤ p i + c) {u v : Nat} {w : Int} (h : Wk E u v w) : p v ≤ p u + w := by
  induction h with
  | refl => omega
  | step _ e ih => have := hp _ _ _ e; omega
theorem fw_mono {E : Mx} : ∀ (k m : Nat) {i j : Nat} {c : Int}, fw E k i j = some c → ∃ z, fw E (k + m) i j = some z ∧ z ≤ c
  | _, 0, _, _, c, h => ⟨c, h, Int.le_refl _⟩
  | k, m + 1, i, j, c, h => by
    obtain ⟨z, h1, h2⟩ := fw_mono k m h
    obtain ⟨y, h3, h4⟩ := comb_le (k := k + m) h1
    exact ⟨y, h3, by omega⟩
theorem pot_diag {E : Mx} {p : Nat → Int} (hp : ∀ i j c, E i j = some c → p j ≤ p i + c) {i : Nat} (h0 : E i i = some 0) (k : Nat) : fw E k i i = some 0 := by
  obtain ⟨z, h1, h2⟩ := fw_mono (E := E) 0 k (show fw E 0 i i = some 0 from h0)
  rw [Nat.zero_add] at h1
  have := way_pot hp (fw_way k h1)
  rw [h1]
  congr 1
  omega
/-! ### Closed over the first marks -/
theorem fw_closed {E : Mx} : ∀ (k : Nat), (∀ l, l < k → fw E l l l = some 0) → ∀ {l i j : Nat} {a b : Int}, l < k → fw E k i l = some a → fw E k l j = some b → ∃ z, fw E k i j = some z ∧ z ≤ a + b
  | 0, _, l, _, _, _, _, h, _, _ => absurd h (Nat.not_lt_zero l)
  | k + 1, hd, l, i, j, a, b, hl, ha, hb => by
    have ih := fun {l i j : Nat} {a b : Int} => fw_closed (l := l) (i := i) (j := j) (a := a) (b := b) k (fun l h => hd l (by omega))
    have hk := hd k (by omega)
    simp only [fw] at ha hb ⊢
    by_cases hlk : l = k
    · subst hlk
      rw [comb_col hk] at ha
      rw [comb_row hk] at hb
      exact comb_via ha hb
    · have hl' : l < k := by omega
      rcases comb_or ha with e | ⟨a1, a2, e1, e2, rfl⟩ <;> rcases comb_or hb with f | ⟨b1, b2, f1, f2, rfl⟩
      · obtain ⟨z, g1, g2⟩ := ih hl' e f
        obtain ⟨y, g3, g4⟩ := comb_le (k := k) g1
        exact ⟨y, g3, by omega⟩
      · obtain ⟨z, g1, g2⟩ := ih hl' e f1
        obtain ⟨y, g3, g4⟩ := comb_via g1 f2
        exact ⟨y, g3, by omega⟩
      · obtain ⟨z, g1, g2⟩ := ih hl' e2 f
        obtain ⟨y, g3, g4⟩ := comb_via e1 g1
        exact ⟨y, g3, by omega⟩
      · obtain ⟨z, g1, g2⟩ := ih hl' e2 f1
        rw [hk] at g1
        have := Option.some.inj g1
        obtain ⟨y, g3, g4⟩ := comb_via e1 f2
        exact ⟨y, g3, by omega⟩
/-! ### Bounds of the numbers -/
def Ch (E : Mx) (i : Nat) : List Nat → Nat → Prop
  | [], j => E i j ≠ none
  | x :: p, j => E i x ≠ none ∧ Ch E x p j
theorem Ch.append {E : Mx} {k j : Nat} {q : List Nat} (h2 : Ch E k q j) : ∀ {p : List Nat} {i : Nat}, Ch E i p k → Ch E i (p ++ k :: q) j
  | [], _, h => ⟨h, h2⟩
  | _ :: _, _, h => ⟨h.1, Ch.append h2 h.2⟩
theorem Ch.tail {E : Mx} {x j : Nat} {c : List Nat} : ∀ {a : List Nat} {i : Nat}, Ch E i (a ++ x :: c) j → Ch E x c j
  | [], _, h => h.2
  | _ :: _, _, h => Ch.tail h.2
theorem Ch.nodup {E : Mx} {j : Nat} : ∀ {p : List Nat} {i : Nat}, Ch E i p j → ∃ q : List Nat, q.Nodup ∧ (∀ x ∈ q, x ∈ p) ∧ Ch E i q j
  | [], _, h => ⟨[], List.nodup_nil, fun _ h => h, h⟩
  | x :: p, i, h => by
    obtain ⟨q, h1, h2, h3⟩ := Ch.nodup h.2
    by_cases hx : x ∈ q
    · obtain ⟨a, c, rfl⟩ := List.append_of_mem hx
      have hc := (List.nodup_append.1 h1).2.1
      exact ⟨x :: c, hc, fun y hy => by
        rcases List.mem_cons.1 hy with rfl | hy
        · exact List.mem_cons_self
        · exact List.mem_cons_of_mem _ (h2 y (List.mem_append_right _ (List.mem_cons_of_mem _ hy))), h.1, Ch.tail h3⟩
    · exact ⟨x :: q, List.nodup_cons.2 ⟨hx, h1⟩, fun y hy => by
        rcases List.mem_cons.1 hy with rfl | hy
        · exact List.mem_cons_self
        · exact List.mem_cons_of_mem _ (h2 y hy), h.1, h3⟩
theorem nodup_len : ∀ (k : Nat) (q : List Nat), q.Nodup → (∀ x ∈ q, x < k) → q.length ≤ k
  | 0, [], _, _ => Nat.le_refl _
  | 0, x :: _, _, h => absurd (h x List.mem_cons_self) (Nat.not_lt_zero _)
  | k + 1, q, hn, h => by
    have h1 := nodup_len k (q.erase k) (hn.erase k) (fun x hx => by
      have h2 := h x (List.mem_of_mem_erase hx)
      have h3 : x ≠ k := fun e => by subst e; exact (List.Nodup.not_mem_erase hn) hx
      omega)
    have := List.length_erase_of_mem (a := k) (l := q)
    by_cases hk : k ∈ q
    · rw [this hk] at h1; omega
    · rw [List.erase_of_not_mem hk] at h1; omega
theorem fw_chain {E : Mx} : ∀ (k : Nat) {i j : Nat} {z : Int}, fw E k i j = some z → ∃ p : List Nat, (∀ x ∈ p, x < k) ∧ Ch E i p j
  | 0, i, j, z, h => ⟨[], fun _ h => absurd h List.not_mem_nil, by unfold Ch; rw [show E i j = some z from h]; simp⟩
  | k + 1, i, j, z, h => by
    rcases comb_or h with e | ⟨a, b, e1, e2, _⟩
    · obtain ⟨p, h1, h2⟩ := fw_chain k e
      exact ⟨p, fun x hx => by have := h1 x hx; omega, h2⟩
    · obtain ⟨p, h1, h2⟩ := fw_chain k e1
      obtain ⟨q, h3, h4⟩ := fw_chain k e2
      refine ⟨p ++ k :: q, fun x hx => ?_, h4.append h2⟩
      rcases List.mem_append.1 hx with hx | hx
      · have := h1 x hx; omega
      · rcases List.mem_cons.1 hx with rfl | hx
        · omega
        · have := h3 x hx; omega
theorem chain_le {E : Mx} {B : Int} (hB : ∀ i j c, E i j = some c → c ≤ B) {k : Nat} (hd : ∀ l, l < k → fw E l l l = some 0) {j : Nat} : ∀ {p : List Nat} {i : Nat}, (∀ x ∈ p, x < k) → Ch E i p j → ∃ z, fw E k i j = some z ∧ z ≤ B * (p.length + 1)
  | [], i, _, h => by
    obtain ⟨c, hc⟩ := Option.ne_none_iff_exists'.1 h
    obtain ⟨z, h1, h2⟩ := fw_mono (E := E) 0 k (show fw E 0 i j = some c from hc)
    rw [Nat.zero_add] at h1
    have := hB _ _ _ hc
    exact ⟨z, h1, by simp; omega⟩
  | x :: p, i, hp, h => by
    obtain ⟨c, hc⟩ := Option.ne_none_iff_exists'.1 h.1
    obtain ⟨y, h1, h2⟩ := fw_mono (E := E) 0 k (show fw E 0 i x = some c from hc)
    rw [Nat.zero_add] at h1
    have := hB _ _ _ hc
    obtain ⟨z, h3, h4⟩ := chain_le hB hd (fun v hv => hp v (List.mem_cons_of_mem _ hv)) h.2
    obtain ⟨w, h5, h6⟩ := fw_closed k hd (hp x List.mem_cons_self) h1 h3
    refine ⟨w, h5, ?_⟩
    have e : B * (((x :: p).length : Int) + 1) = B * (p.length + 1) + B := by rw [List.length_cons]; push_cast; rw [Int.mul_add, Int.mul_one]
    rw [e]; omega
theorem fw_upper {E : Mx} {B : Int} (hB0 : 0 ≤ B) (hB : ∀ i j c, E i j = some c → c ≤ B) {k : Nat} (hd : ∀ l, l < k → fw E l l l = some 0) {i j : Nat} {z : Int} (h : fw E k i j = some z) : z ≤ B * (k + 1) := by
  obtain ⟨p, h1, h2⟩ := fw_chain k h
  obtain ⟨q, h3, h4, h5⟩ := h2.nodup
  have hq : ∀ x ∈ q, x < k := fun x hx => h1 x (h4 x hx)
  obtain ⟨y, h6, h7⟩ := chain_le hB hd hq h5
  rw [h] at h6
  have := Option.some.inj h6
  have hl := nodup_len k q h3 hq
  have : B * (q.length + 1) ≤ B * (k + 1) := Int.mul_le_mul_of_nonneg_left (by omega) hB0
  omega
theorem fw_sym {E : Mx} (hs : ∀ i j, E i j ≠ none → E j i ≠ none) : ∀ (k : Nat) {i j : Nat}, fw E k i j ≠ none → fw E k j i ≠ none
  | 0, i, j, h => hs i j h
  | k + 1, i, j, h => by
    obtain ⟨z, hz⟩ := Option.ne_none_iff_exists'.1 h
    rcases comb_or hz with e | ⟨a, b, e1, e2, _⟩
    · obtain ⟨c, hc⟩ := Option.ne_none_iff_exists'.1 (fw_sym hs k (show fw E k i j ≠ none by rw [e]; simp))
      obtain ⟨y, hy, _⟩ := comb_le (k := k) hc
      show comb (fw E k) k j i ≠ none
      rw [hy]; simp
    · obtain ⟨c, hc⟩ := Option.ne_none_iff_exists'.1 (fw_sym hs k (show fw E k i k ≠ none by rw [e1]; simp))
      obtain ⟨d, hd⟩ := Option.ne_none_iff_exists'.1 (fw_sym hs k (show fw E k k j ≠ none by rw [e2]; simp))
      obtain ⟨y, hy, _⟩ := comb_via hd hc
      show comb (fw E k) k j i ≠ none
      rw [hy]; simp
theorem fw_bounds {E : Mx} {B : Int} (hB0 : 0 ≤ B) (hB : ∀ i j c, E i j = some c → -B ≤ c ∧ c ≤ B) (hs : ∀ i j, E i j ≠ none → E j i ≠ none) {n : Nat} (ho : Out n E) :
    ∀ (k : Nat), k ≤ n → (∀ l, l ≤ k → ∀ i, i < n → fw E l i i = some 0) → ∀ {i j : Nat} {z : Int}, fw E k i j = some z → -(2 * (B * (k + 1))) ≤ z ∧ z ≤ B * (k + 1)
  | 0, _, _, i, j, z, h => by
    have := hB i j z h
    simp; omega
  | k + 1, hk, hd, i, j, z, h => by
    have hdl : ∀ l, l < k + 1 → fw E l l l = some 0 := fun l hl => hd l (by omega) l (by omega)
    have hu := fw_upper hB0 (fun i j c h => (hB i j c h).2) hdl h
    refine ⟨?_, hu⟩
    have hgrow : B * ((k : Int) + 1 + 1) = B * (k + 1) + B := by rw [Int.mul_add (B) ((k : Int) + 1) 1, Int.mul_one]
    have side : ∀ {i' l' : Nat} {a : Int}, l' ≤ k → fw E (k + 1) i' l' = some a → -(B * ((k + 1 : Nat) + 1)) ≤ a := by
      intro i' l' a hl' ha
      obtain ⟨b, hb⟩ := Option.ne_none_iff_exists'.1 (fw_sym hs (k + 1) (show fw E (k + 1) i' l' ≠ none by rw [ha]; simp))
      obtain ⟨y, h1, h2⟩ := fw_closed (k + 1) hdl (show l' < k + 1 by omega) ha hb
      have hi' : i' < n := Decidable.byContradiction fun hn => by rw [(ho.fw (k + 1) hk) i' l' (by omega)] at ha; cases ha
      rw [hd (k + 1) (by omega) i' hi'] at h1
      have := Option.some.inj h1
      have := fw_upper hB0 (fun i j c h => (hB i j c h).2) hdl hb
      omega
    have side2 : ∀ {l' j' : Nat} {a : Int}, l' ≤ k → fw E (k + 1) l' j' = some a → -(B * ((k + 1 : Nat) + 1)) ≤ a := by
      intro l' j' a hl' ha
      obtain ⟨b, hb⟩ := Option.ne_none_iff_exists'.1 (fw_sym hs (k + 1) (show fw E (k + 1) l' j' ≠ none by rw [ha]; simp))
      obtain ⟨y, h1, h2⟩ := fw_closed (k + 1) hdl (show l' < k + 1 by omega) hb ha
      have hj' : j' < n := Decidable.byContradiction fun hn => by rw [(ho.fw (k + 1) hk) l' j' (by omega)] at ha; cases ha
      rw [hd (k + 1) (by omega) j' hj'] at h1
      have := Option.some.inj h1
      have := fw_upper hB0 (fun i j c h => (hB i j c h).2) hdl hb
      omega
    rcases comb_or h with e | ⟨a, b, e1, e2, rfl⟩
    · have := fw_bounds hB0 hB hs ho k (by omega) (fun l hl => hd l (by omega)) e
      push_cast
      rw [hgrow]; omega
    · obtain ⟨a', h1, h2⟩ := comb_le (k := k) e1
      obtain ⟨b', h3, h4⟩ := comb_le (k := k) e2
      have s1 := side (Nat.le_refl k) (show fw E (k + 1) i k = some a' from h1)
      have s2 := side2 (Nat.le_refl k) (show fw E (k + 1) k j = some b' from h3)
      omega
end Go.Em.Net
/- Years that are lowered round by round end in as many rounds as there are marks if and only if no mark is before itself. -/
namespace Go.Em.Net
abbrev Mv := Nat × Nat × Int
def relax (y : Nat → Int) (m : Mv) : Nat → Int := if y m.1 + m.2.2 < y m.2.1 then fun v => if v = m.2.1 then y m.1 + m.2.2 else y v else y
def chg : List Mv → (Nat → Int) → Bool
  | [], _ => false
  | m :: l, y => decide (y m.1 + m.2.2 < y m.2.1) || chg l (relax y m)
def allChg (mv : List Mv) : Nat → (Nat → Int) → Bool
  | 0, _ => true
  | r + 1, y => chg mv y && allChg mv r (mv.foldl relax y)
theorem chg_quiet : ∀ {l : List Mv} {y : Nat → Int}, chg l y = false → ∀ m ∈ l, y m.2.1 ≤ y m.1 + m.2.2
  | [], _, _, m, hm => absurd hm List.not_mem_nil
  | a :: l, y, h, m, hm => by
    unfold chg at h
    rw [Bool.or_eq_false_iff] at h
    have h1 : ¬ (y a.1 + a.2.2 < y a.2.1) := of_decide_eq_false h.1
    rcases List.mem_cons.1 hm with rfl | hm
    · omega
    · have h2 := h.2
      unfold relax at h2
      rw [if_neg h1] at h2
      exact chg_quiet h2 m hm
theorem quiet_chg : ∀ {l : List Mv} {y : Nat → Int}, (∀ m ∈ l, y m.2.1 ≤ y m.1 + m.2.2) → chg l y = false
  | [], _, _ => rfl
  | a :: l, y, h => by
    have h1 := h a List.mem_cons_self
    have h2 : ¬ (y a.1 + a.2.2 < y a.2.1) := by omega
    unfold chg relax
    rw [if_neg h2, decide_eq_false h2, Bool.false_or]
    exact quiet_chg fun m hm => h m (List.mem_cons_of_mem _ hm)
theorem not_all {mv : List Mv} : ∀ {r : Nat} {y : Nat → Int}, allChg mv r y = false → ∃ p : Nat → Int, ∀ m ∈ mv, p m.2.1 ≤ p m.1 + m.2.2
  | 0, _, h => by cases h
  | r + 1, y, h => by
    unfold allChg at h
    rw [Bool.and_eq_false_iff] at h
    rcases h with h | h
    · exact ⟨y, chg_quiet h⟩
    · exact not_all h
theorem relax_le (y : Nat → Int) (m : Mv) (v : Nat) : relax y m v ≤ y v := by
  unfold relax
  split
  · rename_i h
    show (if v = m.2.1 then y m.1 + m.2.2 else y v) ≤ y v
    split
    · rename_i e; subst e; omega
    · omega
  · omega
theorem relax_to (y : Nat → Int) (m : Mv) : relax y m m.2.1 ≤ y m.1 + m.2.2 := by
  unfold relax
  split
  · simp
  · omega
/-! ### Years from below -/
section
variable {n : Nat} {mv : List Mv} {P : Nat → Int} (hin : ∀ m ∈ mv, m.1 < n ∧ m.2.1 < n) (hp : ∀ m ∈ mv, P m.2.1 ≤ P m.1 + m.2.2)
def Inv (n : Nat) (P y : Nat → Int) : Prop := ∀ v, v < n → P v ≤ y v ∧ y v ≤ 0
include hin hp
theorem Inv.relax {y : Nat → Int} (h : Inv n P y) {m : Mv} (hm : m ∈ mv) : Inv n P (relax y m) := by
  intro v hv
  refine ⟨?_, Int.le_trans (relax_le y m v) (h v hv).2⟩
  unfold Net.relax
  split
  · show P v ≤ (if v = m.2.1 then y m.1 + m.2.2 else y v)
    split
    · rename_i e; subst e
      have := hp m hm
      have := (h m.1 (hin m hm).1).1
      omega
    · exact (h v hv).1
  · exact (h v hv).1
theorem Inv.round {y : Nat → Int} (h : Inv n P y) : ∀ (l : List Mv), (∀ m ∈ l, m ∈ mv) → Inv n P (l.foldl Net.relax y)
  | [], _ => h
  | m :: l, hl => Inv.round (h.relax hin hp (hl m List.mem_cons_self)) l fun x hx => hl x (List.mem_cons_of_mem _ hx)
omit hin hp in
theorem round_le : ∀ (l : List Mv) (y : Nat → Int) (v : Nat), l.foldl Net.relax y v ≤ y v
  | [], _, _ => Int.le_refl _
  | m :: l, y, v => Int.le_trans (round_le l (Net.relax y m) v) (relax_le y m v)
theorem settles {a b : Nat} {c : Int} (hP : P b = P a + c) (hb : b < n) (ha : a < n) : ∀ (l : List Mv) (y : Nat → Int), Inv n P y → (∀ m ∈ l, m ∈ mv) → (a, b, c) ∈ l → y a = P a → l.foldl Net.relax y b = P b
  | [], _, _, _, hm, _ => absurd hm List.not_mem_nil
  | m :: l, y, hy, hl, hm, hya => by
    have h1 : Inv n P (Net.relax y m) := hy.relax hin hp (hl m List.mem_cons_self)
    have hl' : ∀ x ∈ l, x ∈ mv := fun x hx => hl x (List.mem_cons_of_mem _ hx)
    have h2 := h1.round hin hp l hl'
    rcases List.mem_cons.1 hm with e | hm
    · have h3 := relax_to y m
      rw [← e] at h3
      have h4 := round_le l (Net.relax y m) b
      have h5 := (h2 b hb).1
      rw [← e] at h4 h5
      show l.foldl Net.relax (Net.relax y m) b = P b
      rw [← e]
      simp only at h3 h4 h5 ⊢
      omega
    · have h3 : Net.relax y m a = P a := by
        have := relax_le y m a
        have := (h1 a ha).1
        omega
      exact settles hP hb ha l _ h1 hl' hm h3
end
theorem countP_lt {p q : Nat → Bool} : ∀ {l : List Nat} {v : Nat}, (∀ x ∈ l, q x = true → p x = true) → v ∈ l → p v = true → q v = false → l.countP q < l.countP p
  | [], _, _, h, _, _ => absurd h List.not_mem_nil
  | x :: l, v, h, hv, hp, hq => by
    rw [List.countP_cons, List.countP_cons]
    have hl : ∀ y ∈ l, q y = true → p y = true := fun y hy => h y (List.mem_cons_of_mem _ hy)
    have hx := h x List.mem_cons_self
    have hle : l.countP q ≤ l.countP p := List.countP_mono_left hl
    rcases List.mem_cons.1 hv with rfl | hv
    · simp [hp, hq]; omega
    · have := countP_lt hl hv hp hq
      cases hqx : q x <;> cases hpx : p x <;> simp_all <;> omega
theorem least_of (f : Nat → Option Int) : ∀ n : Nat, (∃ u, u < n ∧ f u ≠ none) → ∃ u z, u < n ∧ f u = some z ∧ ∀ u' z', u' < n → f u' = some z' → z ≤ z'
  | 0, ⟨_, h, _⟩ => absurd h (Nat.not_lt_zero _)
  | n + 1, ⟨u, hu, hf⟩ => by
    cases hn : f n with
    | none =>
      have hun : u < n := by
        rcases Nat.lt_or_eq_of_le (Nat.le_of_lt_succ hu) with h | h
        · exact h
        · subst h; exact absurd hn hf
      obtain ⟨v, z, h1, h2, h3⟩ := least_of f n ⟨u, hun, hf⟩
      refine ⟨v, z, by omega, h2, fun u' z' hu' e => ?_⟩
      rcases Nat.lt_or_eq_of_le (Nat.le_of_lt_succ hu') with h | h
      · exact h3 u' z' h e
      · subst h; rw [hn] at e; cases e
    | some z0 =>
      by_cases hex : ∃ u, u < n ∧ f u ≠ none
      · obtain ⟨v, z, h1, h2, h3⟩ := least_of f n hex
        by_cases hz : z ≤ z0
        · refine ⟨v, z, by omega, h2, fun u' z' hu' e => ?_⟩
          rcases Nat.lt_or_eq_of_le (Nat.le_of_lt_succ hu') with h | h
          · exact h3 u' z' h e
          · subst h; rw [hn] at e; have := Option.some.inj e; omega
        · refine ⟨n, z0, by omega, hn, fun u' z' hu' e => ?_⟩
          rcases Nat.lt_or_eq_of_le (Nat.le_of_lt_succ hu') with h | h
          · have := h3 u' z' h e; omega
          · subst h; rw [hn] at e; have := Option.some.inj e; omega
      · refine ⟨n, z0, by omega, hn, fun u' z' hu' e => ?_⟩
        rcases Nat.lt_or_eq_of_le (Nat.le_of_lt_succ hu') with h | h
        · exact absurd ⟨u', h, by rw [e]; simp⟩ hex
        · subst h; rw [hn] at e; have := Option.some.inj e; omega
section
variable {n : Nat} {E : Mx} {mv : List Mv} (ho : Out n E) (hin : ∀ m ∈ mv, m.1 < n ∧ m.2.1 < n) (h0 : ∀ i, i < n → E i i = some 0)
  (he : ∀ i j c, E i j = some c → (i = j ∧ c = 0) ∨ (i, j, c) ∈ mv) (hm : ∀ m ∈ mv, ∃ c, E m.1 m.2.1 = some c ∧ c ≤ m.2.2)
include ho hin h0 he hm
omit ho h0 in
theorem rest_of_diag (hn : 0 < n) (hd : ∀ k, k ≤ n → ∀ i, i < n → fw E k i i = some 0) : allChg mv n (fun _ => 0) = false := by
  have hdl : ∀ l, l < n → fw E l l l = some 0 := fun l hl => hd l (by omega) l hl
  have key : ∀ v, ∃ p : Int, v < n → ∃ u, u < n ∧ fw E n u v = some p ∧ ∀ u' z', u' < n → fw E n u' v = some z' → p ≤ z' := by
    intro v
    by_cases hv : v < n
    · obtain ⟨u, z, h1, h2, h3⟩ := least_of (fun u => fw E n u v) n ⟨v, hv, by rw [hd n (Nat.le_refl n) v hv]; simp⟩
      exact ⟨z, fun _ => ⟨u, h1, h2, h3⟩⟩
    · exact ⟨0, fun h => absurd h hv⟩
  obtain ⟨P, hP⟩ := Classical.axiomOfChoice key
  have P0 : ∀ v, v < n → P v ≤ 0 := fun v hv => by
    obtain ⟨u, _, _, h3⟩ := hP v hv
    exact h3 v 0 hv (hd n (Nat.le_refl n) v hv)
  have hp : ∀ m ∈ mv, P m.2.1 ≤ P m.1 + m.2.2 := by
    intro m hmm
    obtain ⟨ha, hb⟩ := hin m hmm
    obtain ⟨c, hc, hcl⟩ := hm m hmm
    obtain ⟨z, h1, h2⟩ := fw_mono (E := E) 0 n (show fw E 0 m.1 m.2.1 = some c from hc)
    rw [Nat.zero_add] at h1
    obtain ⟨u, hu, h3, _⟩ := hP m.1 ha
    obtain ⟨w, h4, h5⟩ := fw_closed n hdl ha h3 h1
    obtain ⟨_, _, _, h6⟩ := hP m.2.1 hb
    have := h6 u w hu h4
    omega
  have root : ∀ v, v < n → ∃ u, u < n ∧ P u = 0 ∧ Wk E u v (P v) := by
    intro v hv
    obtain ⟨u, hu, h1, h2⟩ := hP v hv
    refine ⟨u, hu, ?_, fw_way n h1⟩
    obtain ⟨x, hx, h3, _⟩ := hP u hu
    obtain ⟨w, h4, h5⟩ := fw_closed n hdl hu h3 h1
    have := h2 x w hx h4
    have := P0 u hu
    omega
  have potE : ∀ i j c, E i j = some c → P j ≤ P i + c := by
    intro i j c hc
    rcases he i j c hc with ⟨rfl, rfl⟩ | h
    · omega
    · exact hp _ h
  have fresh : ∀ (y : Nat → Int), Inv n P y → ∀ v, v < n → y v ≠ P v → ∃ a b c, (a, b, c) ∈ mv ∧ y a = P a ∧ y b ≠ P b ∧ P b = P a + c := by
    intro y hy v hv hne
    obtain ⟨u, hu, hu0, hw⟩ := root v hv
    have hyu : y u = P u := by have := hy u hu; omega
    have walk : ∀ {x : Nat} {w : Int}, Wk E u x w → w = P x → y x ≠ P x → ∃ a b c, (a, b, c) ∈ mv ∧ y a = P a ∧ y b ≠ P b ∧ P b = P a + c := by
      intro x w hw
      induction hw with
      | refl => intro _ h; exact absurd hyu h
      | @step q x w c hq hc ih =>
        intro e hx
        have h1 := potE q x c hc
        have h2 := way_pot potE hq
        have hwq : w = P q := by omega
        by_cases hyq : y q = P q
        · rcases he q x c hc with ⟨rfl, rfl⟩ | hmem
          · exact absurd hyq hx
          · exact ⟨q, x, c, hmem, hyq, hx, by omega⟩
        · exact ih hwq hyq
    exact walk hw rfl hne
  have cnt : ∀ (r : Nat) (y : Nat → Int), Inv n P y → allChg mv r y = true → r ≤ (List.range n).countP (fun v => decide (y v ≠ P v)) := by
    intro r
    induction r with
    | zero => intro _ _ _; exact Nat.zero_le _
    | succ r ih =>
      intro y hy hall
      unfold allChg at hall
      rw [Bool.and_eq_true] at hall
      have hy' := hy.round hin hp mv fun _ h => h
      have h1 := ih _ hy' hall.2
      have hex : ∃ v, v < n ∧ y v ≠ P v := by
        apply Decidable.byContradiction; intro hno
        have hall' : ∀ v, v < n → y v = P v := fun v hv => Decidable.byContradiction fun h => hno ⟨v, hv, h⟩
        have hq : chg mv y = false := quiet_chg fun m hmm => by
          rw [hall' _ (hin m hmm).1, hall' _ (hin m hmm).2]
          exact hp m hmm
        rw [hq] at hall; cases hall.1
      obtain ⟨v, hv, hne⟩ := hex
      obtain ⟨a, b, c, hmem, h2, h3, h4⟩ := fresh y hy v hv hne
      have hb := (hin _ hmem).2
      have ha := (hin _ hmem).1
      have h5 := settles hin hp h4 hb ha mv y hy (fun _ h => h) hmem h2
      have h6 : (List.range n).countP (fun v => decide (mv.foldl relax y v ≠ P v)) < (List.range n).countP (fun v => decide (y v ≠ P v)) := by
        refine countP_lt (v := b) (fun x hx h => ?_) (List.mem_range.2 hb) (by simpa using h3) (by simpa using h5)
        have hxn := List.mem_range.1 hx
        simp only [ne_eq, decide_eq_true_eq] at h ⊢
        intro e
        have := round_le mv y x
        have := (hy' x hxn).1
        omega
      omega
  have hy0 : Inv n P (fun _ => 0) := fun v hv => ⟨P0 v hv, Int.le_refl _⟩
  cases hall : allChg mv n (fun _ => 0) with
  | false => rfl
  | true =>
    have h1 := cnt n _ hy0 hall
    obtain ⟨u, hu, hu0, _⟩ := root 0 hn
    have h2 : (List.range n).countP (fun v => decide ((0 : Int) ≠ P v)) < (List.range n).countP (fun _ => true) :=
      countP_lt (v := u) (fun _ _ _ => rfl) (List.mem_range.2 hu) rfl (by simp [hu0])
    have h3 : (List.range n).countP (fun _ => true) ≤ n := by
      have := List.countP_le_length (p := fun _ : Nat => true) (l := List.range n)
      simp at this ⊢
    omega
omit ho hin hm in
theorem diag_of_rest {r : Nat} {y : Nat → Int} (h : allChg mv r y = false) (k : Nat) {i : Nat} (hi : i < n) : fw E k i i = some 0 := by
  obtain ⟨p, hp⟩ := not_all h
  refine pot_diag (p := p) (fun a b c hc => ?_) (h0 i hi) k
  rcases he a b c hc with ⟨rfl, rfl⟩ | hmem
  · omega
  · exact hp _ hmem
end
end Go.Em.Net
/- Ways and their least bounds once more: bounds do not depend on an order of moves, fall when there are more of them, and leave room for years. -/
namespace Go.Em.Net
/-! ### Years -/
structure Clsd (n : Nat) (N : Mx) : Prop where
  diag : ∀ i, i < n → N i i = some 0
  via : ∀ {i l j : Nat} {a b : Int}, l < n → N i l = some a → N l j = some b → ∃ z, N i j = some z ∧ z ≤ a + b
  sym : ∀ {i j : Nat}, N i j ≠ none → N j i ≠ none
def Kept (N : Mx) (dt : Nat → Bool) (y : Nat → Int) : Prop := ∀ i j c, dt i = true → dt j = true → N i j = some c → y j ≤ y i + c
theorem Clsd.room {n : Nat} {N : Mx} (h : Clsd n N) {dt : Nat → Bool} {y : Nat → Int} (hk : Kept N dt y) {i : Nat} (hi : i < n) {j k : Nat} {a b : Int} (hj : dt j = true) (hk' : dt k = true) (ha : N i j = some a) (hb : N k i = some b) : y j - a ≤ y k + b := by
  obtain ⟨z, h1, h2⟩ := h.via hi hb ha
  have := hk k j z hk' hj h1
  omega
theorem Clsd.put {n : Nat} {N : Mx} (h : Clsd n N) {dt : Nat → Bool} {y : Nat → Int} (hk : Kept N dt y) {i : Nat} (hi : i < n) {v : Int} (h1 : ∀ j a, dt j = true → N i j = some a → y j - a ≤ v) (h2 : ∀ j b, dt j = true → N j i = some b → v ≤ y j + b) (hdi : dt i = false) : Kept N (fun q => if q = i then true else dt q) (fun q => if q = i then v else y q) := by
  intro a b c ha hb hc
  show (if b = i then v else y b) ≤ (if a = i then v else y a) + c
  by_cases e1 : a = i <;> by_cases e2 : b = i
  · subst e1; subst e2
    rw [h.diag _ hi] at hc
    have := Option.some.inj hc
    simp; omega
  · subst e1
    simp only [e2, if_false] at hb
    have := h1 b c hb hc
    simp [e2]; omega
  · subst e2
    simp only [e1, if_false] at ha
    have := h2 a c ha hc
    simp [e1]; omega
  · simp only [e1, if_false] at ha
    simp only [e2, if_false] at hb
    simp only [e1, e2, if_false]
    exact hk a b c ha hb hc
end Go.Em.Net
