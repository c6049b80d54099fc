/- Least bounds over ways: matrices that are lowered mark by mark (Floyd, Warshall), and years that are lowered round by round (Bellman, Ford): the one finds a contradiction when the other does. No bound is 'none'. -/
namespace Go.Em.Net
abbrev Mx := Nat → Nat → Option Int
def comb (M : Mx) (k i j : Nat) : Option Int := match M i k, M k j with
  | some a, some b => (match M i j with | some c => some (min c (a + b)) | none => some (a + b))
  | _, _ => M i j
theorem comb_or {M : Mx} {k i j : Nat} {z : Int} (h : comb M k i j = some z) : M i j = some z ∨ ∃ a b, M i k = some a ∧ M k j = some b ∧ z = a + b := by
  unfold comb at h
  split at h
  · rename_i a b ha hb
    split at h
    · rename_i c hc
      have h' := Option.some.inj h
      by_cases hm : c ≤ a + b
      · exact .inl (by rw [hc, ← h', Int.min_eq_left hm])
      · exact .inr ⟨a, b, ha, hb, by rw [← h', Int.min_eq_right (by omega)]⟩
    · exact .inr ⟨a, b, ha, hb, (Option.some.inj h).symm⟩
  · exact .inl h
def fw (E : Mx) : Nat → Mx
  | 0 => E
  | k + 1 => comb (fw E k) k
/-! ### In place -/
def Out (n : Nat) (M : Mx) : Prop := ∀ a b, ¬ (a < n ∧ b < n) → M a b = none
theorem Out.comb {n k : Nat} {M : Mx} (h : Out n M) (_hk : k < n) : Out n (comb M k) := by
  intro a b hab
  cases hc : Net.comb M k a b with
  | none => rfl
  | some z =>
    rcases comb_or hc with e | ⟨x, y, e1, e2, _⟩
    · rw [h a b hab] at e; cases e
    · have h1 : a < n := Decidable.byContradiction fun hn => by rw [h a k (by omega)] at e1; cases e1
      have h2 : b < n := Decidable.byContradiction fun hn => by rw [h k b (by omega)] at e2; cases e2
      exact absurd ⟨h1, h2⟩ hab
theorem Out.fw {n : Nat} {E : Mx} (h : Out n E) : ∀ k, k ≤ n → Out n (fw E k)
  | 0, _ => h
  | k + 1, hk => (Out.fw h k (by omega)).comb (by omega)
/-! ### Ways -/
inductive Wk (E : Mx) (u : Nat) : Nat → Int → Prop
  | refl : Wk E u u 0
  | step {v x : Nat} {w c : Int} : Wk E u v w → E v x = some c → Wk E u x (w + c)
theorem Wk.trans {E : Mx} {u v : Nat} {a : Int} (h : Wk E u v a) : ∀ {x : Nat} {b : Int}, Wk E v x b → Wk E u x (a + b) := by
  intro x b h2
  induction h2 with
  | refl => simpa using h
  | step _ e ih => have := Wk.step ih e; rwa [Int.add_assoc] at this
/-! ### Closed over the first marks -/
/-! ### Bounds of the numbers -/
def Ch (E : Mx) (i : Nat) : List Nat → Nat → Prop
  | [], j => E i j ≠ none
  | x :: p, j => E i x ≠ none ∧ Ch E x p j
theorem Ch.append {E : Mx} {k j : Nat} {q : List Nat} (h2 : Ch E k q j) : ∀ {p : List Nat} {i : Nat}, Ch E i p k → Ch E i (p ++ k :: q) j
  | [], _, h => ⟨h, h2⟩
  | _ :: _, _, h => ⟨h.1, Ch.append h2 h.2⟩
theorem Ch.tail {E : Mx} {x j : Nat} {c : List Nat} : ∀ {a : List Nat} {i : Nat}, Ch E i (a ++ x :: c) j → Ch E x c j
  | [], _, h => h.2
  | _ :: _, _, h => Ch.tail h.2
theorem Ch.nodup {E : Mx} {j : Nat} : ∀ {p : List Nat} {i : Nat}, Ch E i p j → ∃ q : List Nat, q.Nodup ∧ (∀ x ∈ q, x ∈ p) ∧ Ch E i q j
  | [], _, h => ⟨[], List.nodup_nil, fun _ h => h, h⟩
  | x :: p, i, h => by
    obtain ⟨q, h1, h2, h3⟩ := Ch.nodup h.2
    by_cases hx : x ∈ q
    · obtain ⟨a, c, rfl⟩ := List.append_of_mem hx
      have hc := (List.nodup_append.1 h1).2.1
      exact ⟨x :: c, hc, fun y hy => by
        rcases List.mem_cons.1 hy with rfl | hy
        · exact List.mem_cons_self
        · exact List.mem_cons_of_mem _ (h2 y (List.mem_append_right _ (List.mem_cons_of_mem _ hy))), h.1, Ch.tail h3⟩
    · exact ⟨x :: q, List.nodup_cons.2 ⟨hx, h1⟩, fun y hy => by
        rcases List.mem_cons.1 hy with rfl | hy
        · exact List.mem_cons_self
        · exact List.mem_cons_of_mem _ (h2 y hy), h.1, h3⟩
end Go.Em.Net
/- Years that are lowered round by round end in as many rounds as there are marks if and only if no mark is before itself. -/
namespace Go.Em.Net
abbrev Mv := Nat × Nat × Int
def relax (y : Nat → Int) (m : Mv) : Nat → Int := if y m.1 + m.2.2 < y m.2.1 then fun v => if v = m.2.1 then y m.1 + m.2.2 else y v else y
theorem relax_le (y : Nat → Int) (m : Mv) (v : Nat) : relax y m v ≤ y v := by
  unfold relax
  split
  · rename_i h
    show (if v = m.2.1 then y m.1 + m.2.2 else y v) ≤ y v
    split
    · rename_i e; subst e; omega
    · omega
  · omega
/-! ### Years from below -/
section
variable {n : Nat} {mv : List Mv} {P : Nat → Int} (hin : ∀ m ∈ mv, m.1 < n ∧ m.2.1 < n) (hp : ∀ m ∈ mv, P m.2.1 ≤ P m.1 + m.2.2)
def Inv (n : Nat) (P y : Nat → Int) : Prop := ∀ v, v < n → P v ≤ y v ∧ y v ≤ 0
include hin hp
theorem Inv.relax {y : Nat → Int} (h : Inv n P y) {m : Mv} (hm : m ∈ mv) : Inv n P (relax y m) := by
  intro v hv
  refine ⟨?_, Int.le_trans (relax_le y m v) (h v hv).2⟩
  unfold Net.relax
  split
  · show P v ≤ (if v = m.2.1 then y m.1 + m.2.2 else y v)
    split
    · rename_i e; subst e
      have := hp m hm
      have := (h m.1 (hin m hm).1).1
      omega
    · exact (h v hv).1
  · exact (h v hv).1
theorem Inv.round {y : Nat → Int} (h : Inv n P y) : ∀ (l : List Mv), (∀ m ∈ l, m ∈ mv) → Inv n P (l.foldl Net.relax y)
  | [], _ => h
  | m :: l, hl => Inv.round (h.relax hin hp (hl m List.mem_cons_self)) l fun x hx => hl x (List.mem_cons_of_mem _ hx)
end
section
variable {n : Nat} {E : Mx} {mv : List Mv} (ho : Out n E) (hin : ∀ m ∈ mv, m.1 < n ∧ m.2.1 < n) (h0 : ∀ i, i < n → E i i = some 0)
  (he : ∀ i j c, E i j = some c → (i = j ∧ c = 0) ∨ (i, j, c) ∈ mv) (hm : ∀ m ∈ mv, ∃ c, E m.1 m.2.1 = some c ∧ c ≤ m.2.2)
include ho hin h0 he hm
end
end Go.Em.Net
