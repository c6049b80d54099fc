/- Least bounds over ways: matrices that are lowered mark by mark (Floyd, Warshall), and years that are lowered round by round (Bellman, Ford): the one finds a contradiction when the other does. No bound is 'none'. -/
namespace Go.Em.Net
abbrev Mx := Nat → Nat → Option Int
def comb (M : Mx) (k i j : Nat) : Option Int := match M i k, M k j with
  | some a, some b => (match M i j with | some c => some (min c (a + b)) | none => some (a + b))
  | _, _ => M i j
theorem comb_or {M : Mx} {k i j : Nat} {z : Int} (h : comb M k i j = some z) : M i j = some z ∨ ∃ a b, M i k = some a ∧ M k j = some b ∧ z = a + b := by
  unfold comb at h
  split at h
  · rename_i a b ha hb
    split at h
    · rename_i c hc
      have h' := Option.some.inj h
      by_cases hm : c ≤ a + b
      · exact .inl (by rw [hc, ← h', Int.min_eq_left hm])
      · exact .inr ⟨a, b, ha, hb, by rw [← h', Int.min_eq_right (by omega)]⟩
    · exact .inr ⟨a, b, ha, hb, (Option.some.inj h).symm⟩
  · exact .inl h
theorem comb_le {M : Mx} {k i j : Nat} {c : Int} (h : M i j = some c) : ∃ z, comb M k i j = some z ∧ z ≤ c := by
  unfold comb
  split
  · exact ⟨_, by rw [h], by omega⟩
  · exact ⟨c, h, by omega⟩
theorem comb_via {M : Mx} {k i j : Nat} {a b : Int} (ha : M i k = some a) (hb : M k j = some b) : ∃ z, comb M k i j = some z ∧ z ≤ a + b := by
  unfold comb
  rw [ha, hb]
  cases h : M i j with
  | none => exact ⟨_, rfl, by omega⟩
  | some c => exact ⟨_, rfl, by omega⟩
theorem comb_row {M : Mx} {k : Nat} (hk : M k k = some 0) (j : Nat) : comb M k k j = M k j := by
  unfold comb
  rw [hk]
  cases h : M k j with
  | none => rfl
  | some c => simp
theorem comb_col {M : Mx} {k : Nat} (hk : M k k = some 0) (i : Nat) : comb M k i k = M i k := by
  unfold comb
  rw [hk]
  cases h : M i k with
  | none => rfl
  | some c => simp
def fw (E : Mx) : Nat → Mx
  | 0 => E
  | k + 1 => comb (fw E k) k
/-! ### In place -/
def setM (M : Mx) (i j : Nat) (v : Option Int) : Mx := fun a b => if a = i ∧ b = j then v else M a b
def rowT (k i : Nat) (M : Mx) : Nat → Mx
  | 0 => M
  | J + 1 => setM (rowT k i M J) i J (comb (rowT k i M J) k i J)
def stageT (n k : Nat) (M : Mx) : Nat → Mx
  | 0 => M
  | I + 1 => rowT k I (stageT n k M I) n
theorem rowT_eq {k i : Nat} {M : Mx} (hk : M k k = some 0) : ∀ J, rowT k i M J = fun a b => if a = i ∧ b < J then comb M k i b else M a b
  | 0 => by funext a b; simp [rowT]
  | J + 1 => by
    rw [rowT, rowT_eq hk J]
    funext a b
    unfold setM
    have e1 : (if i = i ∧ k < J then comb M k i k else M i k) = M i k := by rw [comb_col hk]; split <;> rfl
    have e2 : (if k = i ∧ J < J then comb M k i J else M k J) = M k J := by simp
    have e3 : (if i = i ∧ J < J then comb M k i J else M i J) = M i J := by simp
    have e : comb (fun a b => if a = i ∧ b < J then comb M k i b else M a b) k i J = comb M k i J := by
      show (match (if i = i ∧ k < J then comb M k i k else M i k), (if k = i ∧ J < J then comb M k i J else M k J) with
        | some a, some b => (match (if i = i ∧ J < J then comb M k i J else M i J) with | some c => some (min c (a + b)) | none => some (a + b))
        | _, _ => (if i = i ∧ J < J then comb M k i J else M i J)) = _
      rw [e1, e2, e3]
      rfl
    rw [e]
    by_cases h1 : a = i
    · subst h1
      by_cases h2 : b = J
      · subst h2; simp
      · have : (b < J + 1) = (b < J) := by simp; omega
        simp [h2, this]
    · simp [h1]
def Out (n : Nat) (M : Mx) : Prop := ∀ a b, ¬ (a < n ∧ b < n) → M a b = none
theorem Out.comb {n k : Nat} {M : Mx} (h : Out n M) (_hk : k < n) : Out n (comb M k) := by
  intro a b hab
  cases hc : Net.comb M k a b with
  | none => rfl
  | some z =>
    rcases comb_or hc with e | ⟨x, y, e1, e2, _⟩
    · rw [h a b hab] at e; cases e
    · have h1 : a < n := Decidable.byContradiction fun hn => by rw [h a k (by omega)] at e1; cases e1
      have h2 : b < n := Decidable.byContradiction fun hn => by rw [h k b (by omega)] at e2; cases e2
      exact absurd ⟨h1, h2⟩ hab
theorem Out.fw {n : Nat} {E : Mx} (h : Out n E) : ∀ k, k ≤ n → Out n (fw E k)
  | 0, _ => h
  | k + 1, hk => (Out.fw h k (by omega)).comb (by omega)
theorem row_full {n k i : Nat} {M : Mx} (hk : M k k = some 0) (ho : Out n M) (hkn : k < n) : rowT k i M n = fun a b => if a = i then comb M k i b else M a b := by
  rw [rowT_eq hk]
  funext a b
  by_cases h1 : a = i
  · subst h1
    by_cases h2 : b < n
    · simp [h2]
    · have := ho.comb hkn a b (by omega)
      simp [h2, this, ho a b (by omega)]
  · simp [h1]
theorem stageT_eq {n k : Nat} {M : Mx} (hk : M k k = some 0) (ho : Out n M) (hkn : k < n) : ∀ I, stageT n k M I = fun a b => if a < I then comb M k a b else M a b
  | 0 => by funext a b; simp [stageT]
  | I + 1 => by
    rw [stageT, stageT_eq hk ho hkn I]
    obtain ⟨N, hN⟩ : ∃ N : Mx, N = fun a b => if a < I then comb M k a b else M a b := ⟨_, rfl⟩
    rw [← hN]
    have rowk : ∀ b, N k b = M k b := fun b => by rw [hN]; simp only [comb_row hk]; split <;> rfl
    have rowi : ∀ b, N I b = M I b := fun b => by rw [hN]; simp
    have hNk : N k k = some 0 := by rw [rowk]; exact hk
    have hNo : Out n N := by
      intro a b hab
      rw [hN]
      simp only [ho a b hab, ho.comb hkn a b hab]
      split <;> rfl
    rw [row_full hNk hNo hkn]
    funext a b
    by_cases h1 : a = I
    · subst h1
      have : comb N k a b = comb M k a b := by unfold comb; rw [rowi, rowi, rowk]
      simp [this]
    · have : (a < I + 1) = (a < I) := by simp; omega
      simp only [h1, if_false, this, hN]
theorem stage_full {n k : Nat} {M : Mx} (hk : M k k = some 0) (ho : Out n M) (hkn : k < n) : stageT n k M n = comb M k := by
  rw [stageT_eq hk ho hkn]
  funext a b
  by_cases h : a < n
  · simp [h]
  · simp [h, ho a b (by omega), ho.comb hkn a b (by omega)]
/-! ### Ways -/
inductive Wk (E : Mx) (u : Nat) : Nat → Int → Prop
  | refl : Wk E u u 0
  | step {v x : Nat} {w c : Int} : Wk E u v w → E v x = some c → Wk E u x (w + c)
theorem Wk.trans {E : Mx} {u v : Nat} {a : Int} (h : Wk E u v a) : ∀ {x : Nat} {b : Int}, Wk E v x b → Wk E u x (a + b) := by
  intro x b h2
  induction h2 with
  | refl => simpa using h
  | step _ e ih => have := Wk.step ih e; rwa [Int.add_assoc] at this
theorem fw_mono {E : Mx} : ∀ (k m : Nat) {i j : Nat} {c : Int}, fw E k i j = some c → ∃ z, fw E (k + m) i j = some z ∧ z ≤ c
  | _, 0, _, _, c, h => ⟨c, h, Int.le_refl _⟩
  | k, m + 1, i, j, c, h => by
    obtain ⟨z, h1, h2⟩ := fw_mono k m h
    obtain ⟨y, h3, h4⟩ := comb_le (k := k + m) h1
    exact ⟨y, h3, by omega⟩
/-! ### Closed over the first marks -/
theorem fw_closed {E : Mx} : ∀ (k : Nat), (∀ l, l < k → fw E l l l = some 0) → ∀ {l i j : Nat} {a b : Int}, l < k → fw E k i l = some a → fw E k l j = some b → ∃ z, fw E k i j = some z ∧ z ≤ a + b
  | 0, _, l, _, _, _, _, h, _, _ => absurd h (Nat.not_lt_zero l)
  | k + 1, hd, l, i, j, a, b, hl, ha, hb => by
    have ih := fun {l i j : Nat} {a b : Int} => fw_closed (l := l) (i := i) (j := j) (a := a) (b := b) k (fun l h => hd l (by omega))
    have hk := hd k (by omega)
    simp only [fw] at ha hb ⊢
    by_cases hlk : l = k
    · subst hlk
      rw [comb_col hk] at ha
      rw [comb_row hk] at hb
      exact comb_via ha hb
    · have hl' : l < k := by omega
      rcases comb_or ha with e | ⟨a1, a2, e1, e2, rfl⟩ <;> rcases comb_or hb with f | ⟨b1, b2, f1, f2, rfl⟩
      · obtain ⟨z, g1, g2⟩ := ih hl' e f
        obtain ⟨y, g3, g4⟩ := comb_le (k := k) g1
        exact ⟨y, g3, by omega⟩
      · obtain ⟨z, g1, g2⟩ := ih hl' e f1
        obtain ⟨y, g3, g4⟩ := comb_via g1 f2
        exact ⟨y, g3, by omega⟩
      · obtain ⟨z, g1, g2⟩ := ih hl' e2 f
        obtain ⟨y, g3, g4⟩ := comb_via e1 g1
        exact ⟨y, g3, by omega⟩
      · obtain ⟨z, g1, g2⟩ := ih hl' e2 f1
        rw [hk] at g1
        have := Option.some.inj g1
        obtain ⟨y, g3, g4⟩ := comb_via e1 f2
        exact ⟨y, g3, by omega⟩
/-! ### Bounds of the numbers -/
def Ch (E : Mx) (i : Nat) : List Nat → Nat → Prop
  | [], j => E i j ≠ none
  | x :: p, j => E i x ≠ none ∧ Ch E x p j
theorem Ch.append {E : Mx} {k j : Nat} {q : List Nat} (h2 : Ch E k q j) : ∀ {p : List Nat} {i : Nat}, Ch E i p k → Ch E i (p ++ k :: q) j
  | [], _, h => ⟨h, h2⟩
  | _ :: _, _, h => ⟨h.1, Ch.append h2 h.2⟩
theorem Ch.tail {E : Mx} {x j : Nat} {c : List Nat} : ∀ {a : List Nat} {i : Nat}, Ch E i (a ++ x :: c) j → Ch E x c j
  | [], _, h => h.2
  | _ :: _, _, h => Ch.tail h.2
theorem Ch.nodup {E : Mx} {j : Nat} : ∀ {p : List Nat} {i : Nat}, Ch E i p j → ∃ q : List Nat, q.Nodup ∧ (∀ x ∈ q, x ∈ p) ∧ Ch E i q j
  | [], _, h => ⟨[], List.nodup_nil, fun _ h => h, h⟩
  | x :: p, i, h => by
    obtain ⟨q, h1, h2, h3⟩ := Ch.nodup h.2
    by_cases hx : x ∈ q
    · obtain ⟨a, c, rfl⟩ := List.append_of_mem hx
      have hc := (List.nodup_append.1 h1).2.1
      exact ⟨x :: c, hc, fun y hy => by
        rcases List.mem_cons.1 hy with rfl | hy
        · exact List.mem_cons_self
        · exact List.mem_cons_of_mem _ (h2 y (List.mem_append_right _ (List.mem_cons_of_mem _ hy))), h.1, Ch.tail h3⟩
    · exact ⟨x :: q, List.nodup_cons.2 ⟨hx, h1⟩, fun y hy => by
        rcases List.mem_cons.1 hy with rfl | hy
        · exact List.mem_cons_self
        · exact List.mem_cons_of_mem _ (h2 y hy), h.1, h3⟩
end Go.Em.Net
/- Years that are lowered round by round end in as many rounds as there are marks if and only if no mark is before itself. -/
namespace Go.Em.Net
abbrev Mv := Nat × Nat × Int
def relax (y : Nat → Int) (m : Mv) : Nat → Int := if y m.1 + m.2.2 < y m.2.1 then fun v => if v = m.2.1 then y m.1 + m.2.2 else y v else y
theorem relax_le (y : Nat → Int) (m : Mv) (v : Nat) : relax y m v ≤ y v := by
  unfold relax
  split
  · rename_i h
    show (if v = m.2.1 then y m.1 + m.2.2 else y v) ≤ y v
    split
    · rename_i e; subst e; omega
    · omega
  · omega
/-! ### Years from below -/
section
variable {n : Nat} {mv : List Mv} {P : Nat → Int} (hin : ∀ m ∈ mv, m.1 < n ∧ m.2.1 < n) (hp : ∀ m ∈ mv, P m.2.1 ≤ P m.1 + m.2.2)
def Inv (n : Nat) (P y : Nat → Int) : Prop := ∀ v, v < n → P v ≤ y v ∧ y v ≤ 0
include hin hp
theorem Inv.relax {y : Nat → Int} (h : Inv n P y) {m : Mv} (hm : m ∈ mv) : Inv n P (relax y m) := by
  intro v hv
  refine ⟨?_, Int.le_trans (relax_le y m v) (h v hv).2⟩
  unfold Net.relax
  split
  · show P v ≤ (if v = m.2.1 then y m.1 + m.2.2 else y v)
    split
    · rename_i e; subst e
      have := hp m hm
      have := (h m.1 (hin m hm).1).1
      omega
    · exact (h v hv).1
  · exact (h v hv).1
theorem Inv.round {y : Nat → Int} (h : Inv n P y) : ∀ (l : List Mv), (∀ m ∈ l, m ∈ mv) → Inv n P (l.foldl Net.relax y)
  | [], _ => h
  | m :: l, hl => Inv.round (h.relax hin hp (hl m List.mem_cons_self)) l fun x hx => hl x (List.mem_cons_of_mem _ hx)
end
section
variable {n : Nat} {E : Mx} {mv : List Mv} (ho : Out n E) (hin : ∀ m ∈ mv, m.1 < n ∧ m.2.1 < n) (h0 : ∀ i, i < n → E i i = some 0)
  (he : ∀ i j c, E i j = some c → (i = j ∧ c = 0) ∨ (i, j, c) ∈ mv) (hm : ∀ m ∈ mv, ∃ c, E m.1 m.2.1 = some c ∧ c ≤ m.2.2)
include ho hin h0 he hm
end
end Go.Em.Net
/- Ways and their least bounds once more: bounds do not depend on an order of moves, fall when there are more of them, and leave room for years. -/
namespace Go.Em.Net
/-! ### Years -/
structure Clsd (n : Nat) (N : Mx) : Prop where
  diag : ∀ i, i < n → N i i = some 0
  via : ∀ {i l j : Nat} {a b : Int}, l < n → N i l = some a → N l j = some b → ∃ z, N i j = some z ∧ z ≤ a + b
  sym : ∀ {i j : Nat}, N i j ≠ none → N j i ≠ none
def Kept (N : Mx) (dt : Nat → Bool) (y : Nat → Int) : Prop := ∀ i j c, dt i = true → dt j = true → N i j = some c → y j ≤ y i + c
theorem Clsd.room {n : Nat} {N : Mx} (h : Clsd n N) {dt : Nat → Bool} {y : Nat → Int} (hk : Kept N dt y) {i : Nat} (hi : i < n) {j k : Nat} {a b : Int} (hj : dt j = true) (hk' : dt k = true) (ha : N i j = some a) (hb : N k i = some b) : y j - a ≤ y k + b := by
  obtain ⟨z, h1, h2⟩ := h.via hi hb ha
  have := hk k j z hk' hj h1
  omega
theorem Clsd.put {n : Nat} {N : Mx} (h : Clsd n N) {dt : Nat → Bool} {y : Nat → Int} (hk : Kept N dt y) {i : Nat} (hi : i < n) {v : Int} (h1 : ∀ j a, dt j = true → N i j = some a → y j - a ≤ v) (h2 : ∀ j b, dt j = true → N j i = some b → v ≤ y j + b) (hdi : dt i = false) : Kept N (fun q => if q = i then true else dt q) (fun q => if q = i then v else y q) := by
  intro a b c ha hb hc
  show (if b = i then v else y b) ≤ (if a = i then v else y a) + c
  by_cases e1 : a = i <;> by_cases e2 : b = i
  · subst e1; subst e2
    rw [h.diag _ hi] at hc
    have := Option.some.inj hc
    simp; omega
  · subst e1
    simp only [e2, if_false] at hb
    have := h1 b c hb hc
    simp [e2]; omega
  · subst e2
    simp only [e1, if_false] at ha
    have := h2 a c ha hc
    simp [e1]; omega
  · simp only [e1, if_false] at ha
    simp only [e2, if_false] at hb
    simp only [e1, e2, if_false]
    exact hk a b c ha hb hc
end Go.Em.Net
/- A closed net that grows by two moves, one in each direction, between two of its marks: what leads over these marks is closed again, and the greatest net that keeps all of them. -/
namespace Go.Em.Net
def LeM (M N : Mx) : Prop := ∀ i j z, N i j = some z → ∃ y, M i j = some y ∧ y ≤ z
theorem LeM.refl (M : Mx) : LeM M M := fun _ _ z h => ⟨z, h, Int.le_refl _⟩
theorem LeM.trans {A B C : Mx} (h : LeM A B) (g : LeM B C) : LeM A C := fun i j z hz => by
  obtain ⟨y, h1, h2⟩ := g i j z hz
  obtain ⟨x, h3, h4⟩ := h i j y h1
  exact ⟨x, h3, by omega⟩
theorem LeM.anti {A B : Mx} (h : LeM A B) (g : LeM B A) : A = B := by
  funext i j
  cases ea : A i j with
  | none => cases eb : B i j with
    | none => rfl
    | some z => obtain ⟨y, h1, _⟩ := h i j z eb; rw [ea] at h1; cases h1
  | some x =>
    obtain ⟨y, h1, h2⟩ := g i j x ea
    obtain ⟨x', h3, h4⟩ := h i j y h1
    rw [ea] at h3
    obtain rfl := Option.some.inj h3
    rw [h1]; congr 1; omega
structure Cl (n : Nat) (N : Mx) : Prop where
  diag : ∀ i, i < n → N i i = some 0
  via : ∀ {i l j : Nat} {a b : Int}, N i l = some a → N l j = some b → ∃ z, N i j = some z ∧ z ≤ a + b
  out : Out n N
theorem Cl.lt {n : Nat} {N : Mx} (c : Cl n N) {i j : Nat} {z : Int} (h : N i j = some z) : i < n ∧ j < n :=
  Decidable.byContradiction fun hn => by rw [c.out i j hn] at h; cases h
theorem Cl.comb {n : Nat} {F M : Mx} (c : Cl n F) (h : LeM F M) (k : Nat) : LeM F (comb M k) := fun i j z hz => by
  rcases comb_or hz with e | ⟨a, b, e1, e2, rfl⟩
  · exact h i j z e
  · obtain ⟨x, h1, h2⟩ := h _ _ _ e1
    obtain ⟨y, h3, h4⟩ := h _ _ _ e2
    obtain ⟨t, h5, h6⟩ := c.via h1 h3
    exact ⟨t, h5, by omega⟩
theorem Cl.fw {n : Nat} {F E : Mx} (c : Cl n F) (h : LeM F E) : ∀ k, LeM F (fw E k)
  | 0 => h
  | k + 1 => c.comb (c.fw h k) k
theorem Cl.way {n : Nat} {F E : Mx} (c : Cl n F) (h : LeM F E) {u v : Nat} {w : Int} (hw : Wk E u v w) (hu : u < n) : ∃ z, F u v = some z ∧ z ≤ w := by
  induction hw with
  | refl => exact ⟨0, c.diag u hu, Int.le_refl _⟩
  | step _ e ih =>
    obtain ⟨z, h1, h2⟩ := ih
    obtain ⟨y, h3, h4⟩ := h _ _ _ e
    obtain ⟨t, h5, h6⟩ := c.via h1 h3
    exact ⟨t, h5, by omega⟩
/-! ### Two more moves -/
def omin (o p : Option Int) : Option Int := match o, p with
  | some x, some y => some (min x y)
  | some x, none => some x
  | none, p => p
theorem omin_or {o p : Option Int} {z : Int} (h : omin o p = some z) : o = some z ∨ p = some z := by
  unfold omin at h
  split at h
  · rename_i x y
    have := Option.some.inj h
    by_cases hm : x ≤ y
    · exact .inl (by congr 1; omega)
    · exact .inr (by congr 1; omega)
  · exact .inl h
  · exact .inr h
theorem omin_l {o p : Option Int} {z : Int} (h : o = some z) : ∃ y, omin o p = some y ∧ y ≤ z := by
  subst h
  cases p with
  | none => exact ⟨z, rfl, Int.le_refl _⟩
  | some y => exact ⟨_, rfl, by omega⟩
theorem omin_r {o p : Option Int} {z : Int} (h : p = some z) : ∃ y, omin o p = some y ∧ y ≤ z := by
  subst h
  cases o with
  | none => exact ⟨z, rfl, Int.le_refl _⟩
  | some y => exact ⟨_, rfl, by omega⟩
def via3 (o : Option Int) (e : Int) (p : Option Int) : Option Int := match o, p with
  | some x, some y => some (x + e + y)
  | _, _ => none
theorem via3_or {o p : Option Int} {e z : Int} (h : via3 o e p = some z) : ∃ x y, o = some x ∧ p = some y ∧ z = x + e + y := by
  unfold via3 at h
  split at h
  · rename_i x y
    exact ⟨x, y, rfl, rfl, (Option.some.inj h).symm⟩
  · cases h
def lowO (o : Option Int) (v : Int) : Option Int := match o with
  | none => some v
  | some z => some (min z v)
theorem lowO_or {o : Option Int} {v z : Int} (h : lowO o v = some z) : o = some z ∨ z = v := by
  unfold lowO at h
  split at h
  · exact .inr (Option.some.inj h).symm
  · rename_i y
    have := Option.some.inj h
    by_cases hm : y ≤ v
    · exact .inl (by congr 1; omega)
    · exact .inr (by omega)
theorem lowO_v (o : Option Int) (v : Int) : ∃ y, lowO o v = some y ∧ y ≤ v := by
  cases o with
  | none => exact ⟨v, rfl, Int.le_refl _⟩
  | some z => exact ⟨_, rfl, by omega⟩
theorem lowO_o {o : Option Int} {v z : Int} (h : o = some z) : ∃ y, lowO o v = some y ∧ y ≤ z := by
  subst h
  exact ⟨_, rfl, by omega⟩
def Lw (W : Mx) (a b : Nat) (e f : Int) : Mx := setM (setM W a b (lowO (W a b) e)) b a (lowO (W b a) f)
def Fw (W : Mx) (a b : Nat) (e f : Int) : Mx := fun p q => omin (W p q) (omin (via3 (W p a) e (W b q)) (via3 (W p b) f (W a q)))
theorem Fw_or {W : Mx} {a b : Nat} {e f : Int} {p q : Nat} {z : Int} (h : Fw W a b e f p q = some z) : W p q = some z ∨ (∃ x y, W p a = some x ∧ W b q = some y ∧ z = x + e + y) ∨ (∃ x y, W p b = some x ∧ W a q = some y ∧ z = x + f + y) := by
  rcases omin_or h with h | h
  · exact .inl h
  · rcases omin_or h with h | h
    · exact .inr (.inl (via3_or h))
    · exact .inr (.inr (via3_or h))
theorem Fw_w {W : Mx} {a b : Nat} {e f : Int} {p q : Nat} {z : Int} (h : W p q = some z) : ∃ y, Fw W a b e f p q = some y ∧ y ≤ z := omin_l h
theorem Fw_e {W : Mx} {a b : Nat} {e f : Int} {p q : Nat} {x y : Int} (h1 : W p a = some x) (h2 : W b q = some y) : ∃ z, Fw W a b e f p q = some z ∧ z ≤ x + e + y := by
  obtain ⟨t, h3, h4⟩ := omin_l (p := via3 (W p b) f (W a q)) (show via3 (W p a) e (W b q) = some (x + e + y) by rw [h1, h2]; rfl)
  obtain ⟨s, h5, h6⟩ := omin_r (o := W p q) h3
  exact ⟨s, h5, by omega⟩
theorem Fw_f {W : Mx} {a b : Nat} {e f : Int} {p q : Nat} {x y : Int} (h1 : W p b = some x) (h2 : W a q = some y) : ∃ z, Fw W a b e f p q = some z ∧ z ≤ x + f + y := by
  obtain ⟨t, h3, h4⟩ := omin_r (o := via3 (W p a) e (W b q)) (show via3 (W p b) f (W a q) = some (x + f + y) by rw [h1, h2]; rfl)
  obtain ⟨s, h5, h6⟩ := omin_r (o := W p q) h3
  exact ⟨s, h5, by omega⟩
structure Fit (n : Nat) (W : Mx) (a b : Nat) (e f : Int) : Prop where
  cl : Cl n W
  ha : a < n
  hb : b < n
  ne : a ≠ b
  ef : 0 ≤ e + f
  he : ∀ z, W b a = some z → 0 ≤ z + e
  hf : ∀ z, W a b = some z → 0 ≤ z + f
theorem Fit.closed {n : Nat} {W : Mx} {a b : Nat} {e f : Int} (h : Fit n W a b e f) : Cl n (Fw W a b e f) := by
  have c := h.cl
  have d1 := h.ef
  refine ⟨fun i hi => ?_, fun {i l j x y} h1 h2 => ?_, fun i j hij => ?_⟩
  · obtain ⟨y, h1, h2⟩ := Fw_w (a := a) (b := b) (e := e) (f := f) (c.diag i hi)
    have : 0 ≤ y := by
      rcases Fw_or h1 with k | ⟨u, v, k1, k2, rfl⟩ | ⟨u, v, k1, k2, rfl⟩
      · rw [c.diag i hi] at k; have := Option.some.inj k; omega
      · obtain ⟨z, k3, k4⟩ := c.via k2 k1
        have := h.he z k3; omega
      · obtain ⟨z, k3, k4⟩ := c.via k2 k1
        have := h.hf z k3; omega
    rw [h1]; congr 1; omega
  · rcases Fw_or h1 with k | ⟨x1, x2, k1, k2, rfl⟩ | ⟨x1, x2, k1, k2, rfl⟩ <;> rcases Fw_or h2 with g | ⟨y1, y2, g1, g2, rfl⟩ | ⟨y1, y2, g1, g2, rfl⟩
    · obtain ⟨z, e1, e2⟩ := c.via k g
      obtain ⟨t, e3, e4⟩ := Fw_w (a := a) (b := b) (e := e) (f := f) e1
      exact ⟨t, e3, by omega⟩
    · obtain ⟨z, e1, e2⟩ := c.via k g1
      obtain ⟨t, e3, e4⟩ := Fw_e (e := e) (f := f) e1 g2
      exact ⟨t, e3, by omega⟩
    · obtain ⟨z, e1, e2⟩ := c.via k g1
      obtain ⟨t, e3, e4⟩ := Fw_f (e := e) (f := f) e1 g2
      exact ⟨t, e3, by omega⟩
    · obtain ⟨z, e1, e2⟩ := c.via k2 g
      obtain ⟨t, e3, e4⟩ := Fw_e (e := e) (f := f) k1 e1
      exact ⟨t, e3, by omega⟩
    · obtain ⟨z, e1, e2⟩ := c.via k2 g1
      have := h.he z e1
      obtain ⟨t, e3, e4⟩ := Fw_e (e := e) (f := f) k1 g2
      exact ⟨t, e3, by omega⟩
    · obtain ⟨z, e1, e2⟩ := c.via k2 g1
      rw [c.diag b h.hb] at e1
      have := Option.some.inj e1
      obtain ⟨w, e5, e6⟩ := c.via k1 g2
      obtain ⟨t, e3, e4⟩ := Fw_w (a := a) (b := b) (e := e) (f := f) e5
      exact ⟨t, e3, by omega⟩
    · obtain ⟨z, e1, e2⟩ := c.via k2 g
      obtain ⟨t, e3, e4⟩ := Fw_f (e := e) (f := f) k1 e1
      exact ⟨t, e3, by omega⟩
    · obtain ⟨z, e1, e2⟩ := c.via k2 g1
      rw [c.diag a h.ha] at e1
      have := Option.some.inj e1
      obtain ⟨w, e5, e6⟩ := c.via k1 g2
      obtain ⟨t, e3, e4⟩ := Fw_w (a := a) (b := b) (e := e) (f := f) e5
      exact ⟨t, e3, by omega⟩
    · obtain ⟨z, e1, e2⟩ := c.via k2 g1
      have := h.hf z e1
      obtain ⟨t, e3, e4⟩ := Fw_f (e := e) (f := f) k1 g2
      exact ⟨t, e3, by omega⟩
  · cases k : Fw W a b e f i j with
    | none => rfl
    | some z =>
      refine absurd ?_ hij
      rcases Fw_or k with k | ⟨u, v, k1, k2, _⟩ | ⟨u, v, k1, k2, _⟩
      · exact c.lt k
      · exact ⟨(c.lt k1).1, (c.lt k2).2⟩
      · exact ⟨(c.lt k1).1, (c.lt k2).2⟩
theorem Lw_or {W : Mx} {a b : Nat} {e f : Int} {p q : Nat} {z : Int} (hne : a ≠ b) (h : Lw W a b e f p q = some z) : W p q = some z ∨ (p = a ∧ q = b ∧ z = e) ∨ (p = b ∧ q = a ∧ z = f) := by
  unfold Lw setM at h
  split at h
  · rename_i k
    obtain ⟨rfl, rfl⟩ := k
    rcases lowO_or h with k | rfl
    · exact .inl k
    · exact .inr (.inr ⟨rfl, rfl, rfl⟩)
  · split at h
    · rename_i k
      obtain ⟨rfl, rfl⟩ := k
      rcases lowO_or h with k | rfl
      · exact .inl k
      · exact .inr (.inl ⟨rfl, rfl, rfl⟩)
    · exact .inl h
theorem Lw_w {W : Mx} {a b : Nat} {e f : Int} {p q : Nat} {z : Int} (h : W p q = some z) : ∃ y, Lw W a b e f p q = some y ∧ y ≤ z := by
  unfold Lw setM
  split
  · rename_i k
    obtain ⟨rfl, rfl⟩ := k
    exact lowO_o h
  · split
    · rename_i k
      obtain ⟨rfl, rfl⟩ := k
      exact lowO_o h
    · exact ⟨z, h, Int.le_refl _⟩
theorem Lw_e {W : Mx} {a b : Nat} {e f : Int} (hne : a ≠ b) : ∃ y, Lw W a b e f a b = some y ∧ y ≤ e := by
  unfold Lw setM
  rw [if_neg (fun k => hne k.1), if_pos ⟨rfl, rfl⟩]
  exact lowO_v _ _
theorem Lw_f {W : Mx} {a b : Nat} {e f : Int} : ∃ y, Lw W a b e f b a = some y ∧ y ≤ f := by
  unfold Lw setM
  rw [if_pos ⟨rfl, rfl⟩]
  exact lowO_v _ _
theorem le_Lw {X W : Mx} {a b : Nat} {e f : Int} (hne : a ≠ b) (hw : LeM X W) (he : ∃ y, X a b = some y ∧ y ≤ e) (hf : ∃ y, X b a = some y ∧ y ≤ f) : LeM X (Lw W a b e f) := fun p q z hz => by
  rcases Lw_or hne hz with k | ⟨rfl, rfl, rfl⟩ | ⟨rfl, rfl, rfl⟩
  · exact hw p q z k
  · exact he
  · exact hf
theorem Fit.le_net {n : Nat} {W : Mx} {a b : Nat} {e f : Int} (h : Fit n W a b e f) : LeM (Fw W a b e f) W ∧ (∃ y, Fw W a b e f a b = some y ∧ y ≤ e) ∧ (∃ y, Fw W a b e f b a = some y ∧ y ≤ f) := by
  refine ⟨fun p q z hz => Fw_w hz, ?_, ?_⟩
  · obtain ⟨y, h1, h2⟩ := Fw_e (e := e) (f := f) (h.cl.diag a h.ha) (h.cl.diag b h.hb)
    exact ⟨y, h1, by omega⟩
  · obtain ⟨y, h1, h2⟩ := Fw_f (e := e) (f := f) (h.cl.diag b h.hb) (h.cl.diag a h.ha)
    exact ⟨y, h1, by omega⟩
theorem Fit.over {n : Nat} {W : Mx} {a b : Nat} {e f : Int} (h : Fit n W a b e f) : comb (comb (Lw W a b e f) a) b = Fw W a b e f := by
  obtain ⟨l1, l2, l3⟩ := h.le_net
  refine LeM.anti (fun p q z hz => ?_) (h.closed.comb (h.closed.comb (le_Lw h.ne l1 l2 l3) a) b)
  have up : ∀ {p q : Nat} {z : Int}, W p q = some z → ∃ y, comb (Lw W a b e f) a p q = some y ∧ y ≤ z := fun {p q z} k => by
    obtain ⟨y, h1, h2⟩ := Lw_w (a := a) (b := b) (e := e) (f := f) k
    obtain ⟨t, h3, h4⟩ := comb_le (k := a) h1
    exact ⟨t, h3, by omega⟩
  rcases Fw_or hz with k | ⟨u, v, k1, k2, rfl⟩ | ⟨u, v, k1, k2, rfl⟩
  · obtain ⟨y, h1, h2⟩ := up k
    obtain ⟨t, h3, h4⟩ := comb_le (k := b) h1
    exact ⟨t, h3, by omega⟩
  · obtain ⟨x, h1, h2⟩ := Lw_w (a := a) (b := b) (e := e) (f := f) k1
    obtain ⟨y, h3, h4⟩ := Lw_e (W := W) (e := e) (f := f) h.ne
    obtain ⟨s, h5, h6⟩ := comb_via h1 h3
    obtain ⟨t, h7, h8⟩ := up k2
    obtain ⟨r, h9, h10⟩ := comb_via h5 h7
    exact ⟨r, h9, by omega⟩
  · obtain ⟨x, h1, h2⟩ := Lw_f (W := W) (a := a) (b := b) (e := e) (f := f)
    obtain ⟨y, h3, h4⟩ := Lw_w (a := a) (b := b) (e := e) (f := f) k2
    obtain ⟨s, h5, h6⟩ := comb_via h1 h3
    obtain ⟨t, h7, h8⟩ := up k1
    obtain ⟨r, h9, h10⟩ := comb_via h7 h5
    exact ⟨r, h9, by omega⟩
theorem Fit.most {n : Nat} {W X : Mx} {a b : Nat} {e f : Int} (h : Fit n W a b e f) (c : Cl n X) (hw : LeM X W) (he : ∃ y, X a b = some y ∧ y ≤ e) (hf : ∃ y, X b a = some y ∧ y ≤ f) : LeM X (Fw W a b e f) := by
  rw [← h.over]
  exact c.comb (c.comb (le_Lw h.ne hw he hf) a) b
/-! ### A net with further marks -/
def Ext (n : Nat) (r : Nat → Option Nat) (C : Mx) : Mx := fun p q => if p < n ∧ q < n then (if p = q then some 0 else match r p, r q with | some i, some j => C i j | _, _ => none) else none
theorem Ext_out (n : Nat) (r : Nat → Option Nat) (C : Mx) : Out n (Ext n r C) := fun _ _ h => if_neg h
theorem Ext_diag {n : Nat} {r : Nat → Option Nat} {C : Mx} {p : Nat} (h : p < n) : Ext n r C p p = some 0 := by
  unfold Ext; rw [if_pos ⟨h, h⟩, if_pos rfl]
theorem Ext_or {n : Nat} {r : Nat → Option Nat} {C : Mx} {p q : Nat} {z : Int} (h : Ext n r C p q = some z) : (p = q ∧ z = 0) ∨ (p ≠ q ∧ ∃ i j, r p = some i ∧ r q = some j ∧ C i j = some z) := by
  unfold Ext at h
  split at h
  · split at h
    · rename_i e; exact .inl ⟨e, (Option.some.inj h).symm⟩
    · rename_i e
      split at h
      · rename_i i j h1 h2
        exact .inr ⟨e, i, j, h1, h2, h⟩
      · cases h
  · cases h
theorem Ext_of {n m : Nat} {r : Nat → Option Nat} {C : Mx} (c : Cl m C) {p q i j : Nat} {z : Int} (hp : p < n) (hq : q < n) (h1 : r p = some i) (h2 : r q = some j) (h3 : C i j = some z) : ∃ y, Ext n r C p q = some y ∧ y ≤ z := by
  unfold Ext
  rw [if_pos ⟨hp, hq⟩]
  split
  · rename_i e
    subst e
    rw [h1] at h2
    obtain rfl := Option.some.inj h2
    have := c.diag i (c.lt h3).1
    rw [h3] at this
    exact ⟨0, rfl, by have := Option.some.inj this; omega⟩
  · rw [h1, h2]
    exact ⟨z, h3, Int.le_refl _⟩
theorem Cl.ext {n m : Nat} {r : Nat → Option Nat} {C : Mx} (c : Cl m C) : Cl n (Ext n r C) := by
  refine ⟨fun i hi => Ext_diag hi, fun {i l j x y} h1 h2 => ?_, Ext_out n r C⟩
  have hi : i < n := Decidable.byContradiction fun hn => by rw [Ext_out n r C i l (fun k => hn k.1)] at h1; cases h1
  have hj : j < n := Decidable.byContradiction fun hn => by rw [Ext_out n r C l j (fun k => hn k.2)] at h2; cases h2
  rcases Ext_or h1 with ⟨rfl, rfl⟩ | ⟨n1, a, b, k1, k2, k3⟩
  · exact ⟨y, h2, by omega⟩
  · rcases Ext_or h2 with ⟨rfl, rfl⟩ | ⟨n2, b', d, g1, g2, g3⟩
    · exact ⟨x, h1, by omega⟩
    · rw [k2] at g1
      obtain rfl := Option.some.inj g1
      obtain ⟨z, e1, e2⟩ := c.via k3 g3
      obtain ⟨t, e3, e4⟩ := Ext_of (n := n) (r := r) c hi hj k1 g2 e1
      exact ⟨t, e3, by omega⟩
end Go.Em.Net
