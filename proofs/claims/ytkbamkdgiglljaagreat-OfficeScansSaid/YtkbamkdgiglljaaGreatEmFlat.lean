/- Slices of structs whose fields are one cell each: as the evaluator sees them, with a bound on how many there are. -/
import Derived.Test.YtkbamkdgiglljaaGreatEmW
namespace Go.Em
open Go Go.RowKit Go.ChangeShapes Go.WideShapes Go.Deep
theorem mapM_all {α : Type} {f : Nat → Option α} : ∀ {L : List Nat} {cs : List α}, L.mapM f = some cs → cs.length = L.length ∧ ∀ (i k : Nat) (v : α), L[i]? = some k → cs[i]? = some v → f k = some v
  | [], cs, h => by simp at h; subst h; simp
  | k :: L, cs, h => by
    rw [List.mapM_cons] at h
    simp only [Option.bind_eq_bind, Option.bind_eq_some_iff, Option.pure_def, Option.some.injEq] at h
    obtain ⟨v, hv, cs', h1, rfl⟩ := h
    obtain ⟨i1, i2⟩ := mapM_all h1
    refine ⟨by simp [i1], fun i k' v' a b => ?_⟩
    cases i with
    | zero => simp at a b; subst a b; exact hv
    | succ i => simp at a b; exact i2 i k' v' a b
theorem flat_get {α : Type} {n : Nat} (c : α → List Value) (hc : ∀ a, (c a).length = n) : ∀ (l : List α) (j : Nat) (v : Value), (l.flatMap c)[j]? = some v → ∃ i p k, l[i]? = some p ∧ k < n ∧ j = i * n + k ∧ (c p)[k]? = some v
  | [], _, _, h => by simp at h
  | p :: l, j, v, h => by
    rw [List.flatMap_cons] at h
    by_cases hj : j < n
    · rw [List.getElem?_append_left (by rw [hc]; exact hj)] at h
      exact ⟨0, p, j, rfl, hj, by omega, h⟩
    · rw [List.getElem?_append_right (by rw [hc]; omega), hc] at h
      obtain ⟨i, q, k, h1, h2, h3, h4⟩ := flat_get c hc l (j - n) v h
      exact ⟨i + 1, q, k, h1, h2, by rw [Nat.succ_mul]; omega, h4⟩
section
variable {H : Type} {enc : TypeId × Value → H} {P : Program} {w : World} {base : Nat} {spare : Nat → Bool} {held : Bool} {r : Reach} {b0 : Nat}
end
end Go.Em
/- Arguments of whatever type that is built of numbers, truth values, strings, structs, arrays and slices: as the evaluator sees them, with bounds on how long their slices are. -/
namespace Go.Em
open Go Go.RowKit Go.ChangeShapes Go.WideShapes Go.Deep
section
variable {H : Type} (enc : TypeId × Value → H) (P : Program) (w : World) (base : Nat) (spare : Nat → Bool) (held : Bool)
def Reads (t : TypeId) {α : Type} (c : α → List D) (q : α → Prop) : Prop :=
  ∀ (fuel : Nat) (cs : List Value) (x : DataW H × List MemPlace), DataW.trod enc P w base spare held fuel t cs = some x →
    ∃ a : α, DenL (ctxOf w) cs (c a) ∧ ((x.1.weights P t).all (· ≤ reachBytes) = true → q a)
def FReads (N o : Nat) (fs : List Field) {α : Type} (c : α → List D) (q : α → Prop) : Prop :=
  ∀ (n : Nat) (cs : List Value) (xs : List (DataW H × List MemPlace)), cs.length = N → xs.length = fs.length →
    (∀ (i : Nat) (f : Field), fs[i]? = some f → DataW.trod enc P w base spare held n f.type ((cs.drop f.offset).take (P.cellsOf f.type)) = xs[i]?) →
    ∃ a : α, DenL (ctxOf w) (cs.drop o) (c a) ∧ ((DataW.weightsEach P (fs.map (·.type)) (xs.map (·.1))).all (· ≤ reachBytes) = true → q a)
variable {enc P w base spare held}
theorem reads_int {t : TypeId} {k : IntKind} (h : P.underlying t = some (.int k)) : Reads enc P w base spare held t (fun n : Int => [.val (.int k n)]) (fun n => (Lit.int k n).wf = true) := by
  intro fuel cs x hx
  obtain ⟨n, rfl, _, hw⟩ := DataW.trod_int h hx
  exact ⟨n, .cons _ _ _ _ (.val _ rfl) .nil, fun _ => hw⟩
theorem reads_string {t : TypeId} (h : P.underlying t = some .string) : Reads enc P w base spare held t (fun s : ByteArray => [.val (.string s)]) (fun s => s.size ≤ reachBytes) := by
  intro fuel cs x hx
  obtain ⟨s, rfl, rfl, _⟩ := DataW.trod_string h hx
  refine ⟨s, .cons _ _ _ _ (.val _ rfl) .nil, fun hw => ?_⟩
  simp only [DataW.weights, List.all_cons, Bool.and_eq_true, decide_eq_true_eq, Array.length_toList] at hw
  exact hw.1
theorem Reads.map {t : TypeId} {α β : Type} {c : α → List D} {q : α → Prop} (h : Reads enc P w base spare held t c q) (g : α → β) {c' : β → List D} {q' : β → Prop} (hc : ∀ a, c a = c' (g a)) (hq : ∀ a, q a → q' (g a)) : Reads enc P w base spare held t c' q' := by
  intro fuel cs x hx
  obtain ⟨a, h1, h2⟩ := h fuel cs x hx
  exact ⟨g a, by rw [← hc]; exact h1, fun hw => hq a (h2 hw)⟩
theorem freads_nil {N : Nat} : FReads enc P w base spare held N N [] (fun _ : Unit => []) (fun _ => True) := by
  intro n cs xs hN hl _
  refine ⟨(), ?_, fun _ => trivial⟩
  rw [← hN, List.drop_length]
  exact .nil
theorem freads_cons {N o n1 : Nat} {f : Field} {fs : List Field} {α β : Type} {c : α → List D} {q : α → Prop} {c2 : β → List D} {q2 : β → Prop} (h1 : Reads enc P w base spare held f.type c q) (ho : f.offset = o) (hn : P.cellsOf f.type = n1)
    (h2 : FReads enc P w base spare held N (o + n1) fs c2 q2) : FReads enc P w base spare held N o (f :: fs) (fun p : α × β => c p.1 ++ c2 p.2) (fun p => q p.1 ∧ q2 p.2) := by
  intro n cs xs hN hl hf
  cases xs with
  | nil => simp at hl
  | cons x xs =>
    obtain ⟨a, a1, a2⟩ := h1 n _ x (hf 0 f rfl)
    obtain ⟨b, b1, b2⟩ := h2 n cs xs hN (by simpa using hl) (fun i g hg => by simpa using hf (i + 1) g (by simpa using hg))
    refine ⟨(a, b), ?_, fun hw => ?_⟩
    · rw [ho, hn] at a1
      have : cs.drop o = (cs.drop o).take n1 ++ cs.drop (o + n1) := by rw [← List.drop_drop, List.take_append_drop]
      rw [this]
      exact a1.append b1
    · simp only [List.map_cons, DataW.weightsEach, List.all_append, Bool.and_eq_true] at hw
      exact ⟨a2 hw.1, b2 hw.2⟩
theorem reads_struct {t : TypeId} {fs : Array Field} {α : Type} {c : α → List D} {q : α → Prop} (ht : P.underlying t = some (.struct fs)) (h : FReads enc P w base spare held (P.cellsOf t) 0 fs.toList c q) : Reads enc P w base spare held t c q := by
  intro fuel cs x hx
  obtain ⟨xs, n, rfl, rfl, hl, hn, hf⟩ := DataW.trod_struct ht hx
  obtain ⟨a, h1, h2⟩ := h n cs xs hl (by simpa using hn) (fun i f hi => hf i f (by simpa using hi))
  refine ⟨a, by simpa using h1, fun hw => h2 ?_⟩
  simpa only [DataW.weights, ht] using hw
theorem weightsAll_mem {t : TypeId} : ∀ {l : List (DataW H)}, (DataW.weightsAll P t l).all (· ≤ reachBytes) = true → ∀ d, d ∈ l → (d.weights P t).all (· ≤ reachBytes) = true
  | [], _, d, h => by cases h
  | e :: l, h, d, hd => by
    simp only [DataW.weightsAll, List.all_append, Bool.and_eq_true] at h
    rcases List.mem_cons.1 hd with rfl | hd
    · exact h.1
    · exact weightsAll_mem h.2 d hd
theorem reads_slice {t e : TypeId} {n : Nat} {α : Type} {c : α → List D} {q : α → Prop} (d : α → D) (ht : P.underlying t = some (.slice e)) (he : P.cellsOf e = n) (hn : 0 < n) (hd : ∀ a, (d a).cells = c a) (hl : ∀ a, (c a).length = n) (h1 : ∀ a, (c a).all D.one = true)
    (h : Reads enc P w base spare held e c q) :
    Reads enc P w base spare held t (fun l : List α => [.sl false (l.map d)]) (fun l => l.length * P.bytesOf e ≤ reachBytes ∧ ∀ a, a ∈ l → q a) := by
  intro fuel cs x hx
  rcases open_slice ht hx with ⟨rfl, rfl⟩ | ⟨a, len, cap, m, k, Dd, Pl, rfl, _, hlc, hcm, hm, rfl, hel⟩
  · exact ⟨[], .cons _ _ _ _ (.slnil false) .nil, fun _ => ⟨by simp, fun a ha => by cases ha⟩⟩
  · have hlm : len ≤ m := by rw [hm]; split <;> omega
    by_cases h0 : len = 0
    · subst h0
      exact ⟨[], .cons _ _ _ _ (.slw a cap false (fun h => by cases h) hcm) .nil, fun _ => ⟨by simp, fun a ha => by cases ha⟩⟩
    obtain ⟨b, o, s⟩ := a
    let β := {p : α × List Value // p.2.length = n ∧ DenL (ctxOf w) p.2 (c p.1)}
    have key : ∀ i, i < len → ∃ p : β, (∀ j v, p.1.2[j]? = some v → w.cell? ((⟨b, o, s⟩ : Addr).add (i * n + j)) = some v) ∧ (((Dd i).weights P e).all (· ≤ reachBytes) = true → q p.1.1) := by
      intro i hi
      obtain ⟨cs', k1, k2⟩ := hel i (by omega)
      obtain ⟨a, a1, a2⟩ := h k cs' _ k2
      rw [he] at k1
      unfold World.cells? at k1
      split at k1
      · obtain ⟨k3, k4⟩ := mapM_all k1
        rw [List.length_range] at k3
        refine ⟨⟨(a, cs'), k3, a1⟩, fun j v hj => ?_, a2⟩
        have hjn : j < n := by
          have : j < cs'.length := (List.getElem?_eq_some_iff.1 hj).1
          omega
        have := k4 j j v (List.getElem?_range hjn) hj
        rw [add_add] at this
        exact this
      · cases k1
    have hs : s = none := by
      obtain ⟨p, hp, _⟩ := key 0 (by omega)
      have hpl := p.2.1
      have := hp 0 (p.1.2[0]'(by omega)) (List.getElem?_eq_getElem (by omega))
      have := World.cell?_spot this
      simpa [Addr.add] using this
    subst hs
    have hne : Nonempty β := ⟨(key 0 (by omega)).choose⟩
    let i0 : Inhabited β := Classical.inhabited_of_nonempty hne
    obtain ⟨f, hf⟩ := choose_lt key
    refine ⟨(List.range len).map fun i => (f i).1.1, .cons _ _ _ _ ?_ .nil, fun hw => ?_⟩
    · have hlen : (((List.range len).map fun i => (f i).1.1).map d).length = len := by simp
      have hv : Value.slice (some ⟨b, o, none⟩) len cap = .slice (some ⟨b, o, none⟩) (((List.range len).map fun i => (f i).1.1).map d).length cap := by rw [hlen]
      rw [hv]
      refine .sl b o cap false n _ (((List.range len).map f).flatMap fun p => p.1.2) (fun h => by cases h) (by rw [hlen]; exact hlc) hcm (fun e hm => ?_) (fun j v hj => ?_) ?_ ?_
      · obtain ⟨p, _, rfl⟩ := List.mem_map.1 hm
        rw [hd, hl]
      · obtain ⟨i, p, k, k1, k2, k3, k4⟩ := flat_get (n := n) (fun p : β => p.1.2) (fun p => p.2.1) _ j v hj
        rw [List.getElem?_map] at k1
        simp only [Option.map_eq_some_iff] at k1
        obtain ⟨i', k5, rfl⟩ := k1
        have hi' : i < len := by
          have := (List.getElem?_eq_some_iff.1 k5).1
          simpa using this
        rw [List.getElem?_range hi'] at k5
        obtain rfl := Option.some.inj k5
        subst k3
        have := (hf i hi').1 k v k4
        rw [addr_add] at this
        exact ctxOf_cell this
      · rw [List.all_eq_true]
        intro v hv
        obtain ⟨p, _, hp⟩ := List.mem_flatMap.1 hv
        exact List.all_eq_true.1 (p.2.2.one (h1 _)) v hp
      · have : ∀ L : List Nat, DenL (ctxOf w) ((L.map f).flatMap fun p => p.1.2) (((L.map fun i => (f i).1.1).map d).flatMap D.cells) := by
          intro L
          induction L with
          | nil => exact .nil
          | cons i L ih =>
            simp only [List.map_cons, List.flatMap_cons]
            rw [hd]
            exact (f i).2.2.append ih
        exact this _
    · simp only [DataW.weights, ht, List.all_cons, List.all_append, Bool.and_eq_true, decide_eq_true_eq, List.length_map, List.length_range] at hw
      refine ⟨?_, fun a ha => ?_⟩
      · rw [List.length_map, List.length_range]
        exact Nat.le_trans (Nat.mul_le_mul_right _ (by omega)) hw.1
      · obtain ⟨i, hi, rfl⟩ := List.mem_map.1 ha
        have hi' := List.mem_range.1 hi
        exact (hf i hi').2 (weightsAll_mem hw.2.1 _ (List.mem_map.2 ⟨i, hi, rfl⟩))
theorem reads_aggs {t e : TypeId} {n : Nat} {α : Type} {c : α → List D} {q : α → Prop} (ht : P.underlying t = some (.slice e)) (he : P.cellsOf e = n) (hn : 0 < n) (hl : ∀ a, (c a).length = n) (h1 : ∀ a, (c a).all D.one = true)
    (h : Reads enc P w base spare held e c q) : Reads enc P w base spare held t (fun l : List α => [.sl false (l.map fun a => .agg (c a))]) (fun l => l.length * P.bytesOf e ≤ reachBytes ∧ ∀ a, a ∈ l → q a) :=
  reads_slice (fun a => .agg (c a)) ht he hn (fun _ => rfl) hl h1 h
theorem Reads.one {t : TypeId} {α : Type} {d : α → D} {q : α → Prop} (h : Reads enc P w base spare held t (fun a => [d a]) q) {v : Value} (hv : v.cells.toList = [v]) {x : DataW H} {p : List MemPlace} (hT : DataW.Trod enc P w base spare held t v x p) :
    ∃ a, Den (ctxOf w) v (d a) ∧ ((x.weights P t).all (· ≤ reachBytes) = true → q a) := by
  obtain ⟨fuel, hf⟩ := hT
  rw [hv] at hf
  obtain ⟨a, h1, h2⟩ := h fuel _ _ hf
  cases h1 with
  | cons _ _ _ _ h3 _ => exact ⟨a, h3, h2⟩
theorem Reads.agg {t : TypeId} {α : Type} {c : α → List D} {q : α → Prop} (h : Reads enc P w base spare held t c q) {cs : Array Value} {x : DataW H} {p : List MemPlace} (hT : DataW.Trod enc P w base spare held t (.agg cs) x p) :
    ∃ a, Den (ctxOf w) (.agg cs) (.agg (c a)) ∧ ((x.weights P t).all (· ≤ reachBytes) = true → q a) := by
  obtain ⟨fuel, hf⟩ := hT
  obtain ⟨a, h1, h2⟩ := h fuel _ _ hf
  exact ⟨a, by have := Den.agg cs.toList _ h1; simpa using this, h2⟩
end
end Go.Em
