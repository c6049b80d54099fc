/- A call in a heap of its own does what the evaluator says. -/
import Derived.Test.YtfemldhlanoakaaGreatDoorEmN
namespace Go.Em
open Go Go.RowKit

/-- Calls of functions answer as this says. -/
structure FnS (P : Program) (pg : Pg) (F : FuncId → List D → Heap → Option (Out × Heap)) : Prop where
  ok : ∀ f args h out h', F f args h = some (out, h') → FnIs P f ∧ ∀ (C : Cx) (K : Ctx) (w : World) (vs : List Value) (m : Nat), IsC P pg C → Sim C K h w → DenL K vs args →
    CallsIn (Fe P none) m P f vs.toArray w fun e w' => ∃ K', K.le K' ∧ Sim C K' h' w' ∧ OutRel K' out e

theorem frz_denL {C : Cx} {K : Ctx} {h : Heap} {w : World} {S : List Nat} (s : Sim C K h w) {n : Nat} : ∀ {l l' : List D} {ks : List Nat}, each (frz h n) l = some (l', ks) → (∀ k, k ∈ ks → k ∈ S) → ∀ {vs : List Value}, DenL K vs l → DenL (K.more h w S) vs l' ∧ D.pureL l' = true
  | [], l', ks, he, _, vs, hl => by
    simp only [each, Option.some.injEq, Prod.mk.injEq] at he
    obtain ⟨rfl, rfl⟩ := he
    cases hl; exact ⟨.nil, rfl⟩
  | d :: l, l', ks, he, hS, vs, hl => by
    simp only [each] at he
    split at he <;> cases he
    rename_i d' a l'' b h1 h2
    cases hl with
    | cons v _ vs _ i1 i2 =>
      obtain ⟨j1, j2⟩ := frz_den (S := S) s _ _ _ _ h1 (fun k hk => hS k (by simp [hk])) _ i1
      obtain ⟨k1, k2⟩ := frz_denL s h2 (fun k hk => hS k (by simp [hk])) i2
      exact ⟨.cons _ _ _ _ j1 k1, by simp only [D.pureL, j2, k2, Bool.and_self]⟩

theorem CallsIn.monoE {F : Fence} {n : Nat} {P : Program} {f : FuncId} {args : Array Value} {w : World} {R R' : Ending → World → Prop} (h : CallsIn F n P f args w R) (hr : ∀ e w', R e w' → R' e w') : CallsIn F n P f args w R' :=
  ⟨h.1, fun cs hroom => let ⟨e, w', fr, r, s⟩ := h.2 cs hroom; ⟨e, w', fr, hr _ _ r, s⟩⟩

section
variable {P : Program} {pg : Pg} {C : Cx} {K : Ctx} {h : Heap} {w : World}

/-- Memory as a call in a heap of its own sees it. -/
theorem own_sim (hC : IsC P pg C) (s : Sim C K h w) : IsC P pg { C with w0 := w, K0 := { K with loc := fun _ => none } } ∧ Sim { C with w0 := w, K0 := { K with loc := fun _ => none } } { K with loc := fun _ => none } .empty w := by
  refine ⟨⟨hC.hP, hC.hpg, hC.hofc, hC.gl⟩, ⟨.refl _ _, fun g cs x => ?_, Below.refl _ _, s.cells, s.objs, fun k B x => by simp [Heap.empty, Heap.get, Heap.raw, Heap.look] at x, fun k k' B B' b n n' x => by simp [Heap.empty, Heap.get, Heap.raw, Heap.look] at x, fun k _ => rfl⟩⟩
  have hp : (D.eref cs).pure = true := hC.gl g cs (by rw [← hC.hpg]; exact x)
  exact Den.move (S := K) (S' := { K with loc := fun _ => none }) ⟨fun _ _ _ x => x, fun _ _ x => x⟩ (s.glob g cs x) hp

theorem own_back (s : Sim C K h w) {K1 : Ctx} {h1 : Heap} {w1 : World} (s1 : Sim { C with w0 := w, K0 := { K with loc := fun _ => none } } K1 h1 w1) :
    K.le { K1 with loc := K.loc } ∧ Sim C { K1 with loc := K.loc } h w1 := by
  have hE : Ext w.heap.size K { K1 with loc := K.loc } := ⟨⟨s1.ext.le.cell, s1.ext.le.obj⟩, s1.ext.cell, s1.ext.obj⟩
  exact ⟨⟨hE.le.cell, hE.le.obj, fun _ _ x => x⟩, s.grow s1.below hE rfl (fun b o v x _ => s1.cells b o v x) (fun b o x _ => s1.objs b o x)⟩

theorem pure_back (s : Sim C K h w) (ks : List Nat) {K1 : Ctx} {h1 : Heap} {w1 : World} (s1 : Sim { C with w0 := w, K0 := { K.more h w ks with loc := fun _ => none } } K1 h1 w1) {v : Value} {r r' : D} (hv : Den K1 v r) {ks1 : List Nat} (hf : frz h1 depth r = some (r', ks1)) :
    ∃ K', K.le K' ∧ Sim C K' (if ks.isEmpty || r'.flat then h else h.kill ks) w1 ∧ Den K' v r' := by
  obtain ⟨hd, hp⟩ := frz_den (S := ks1) s1 _ _ _ _ hf (fun _ x => x) _ hv
  by_cases hfl : r'.flat = true
  · rw [if_pos (by simp [hfl])]
    refine ⟨K, .refl K, s.grow s1.below (.refl _ _) rfl (fun b o v x hb => ?_) (fun b o x hb => ?_), hd.any hfl⟩
    · have := (s.cells b o v x).1; omega
    · have := (Array.getElem?_eq_some_iff.1 (s.objs b o x).1).1; omega
  · have hk : (if ks.isEmpty || r'.flat then h else h.kill ks) = h.kill ks := by
      cases ks with
      | nil => rfl
      | cons => simp [hfl]
    rw [hk]
    have s2 := s1.freeze ks1
    obtain ⟨i1, i2⟩ := own_back (s.freeze ks) s2
    exact ⟨_, more_le.trans i1, i2, Den.move (S := K1.more h1 w1 ks1) (S' := { K1.more h1 w1 ks1 with loc := (K.more h w ks).loc }) ⟨fun _ _ _ x => x, fun _ _ x => x⟩ hd hp⟩
end

theorem pure_ok {P : Program} {pg : Pg} {R : Rc} (hF : FnS P pg R.fn) {f : FuncId} {as : List D} {o : Out} (hp : pureCall R f as = some o) : FnIs P f ∧ ∀ (C : Cx) (K : Ctx) (h : Heap) (w : World) (vs : List Value) (m : Nat) (ks : List Nat), IsC P pg C → Sim C K h w → DenL (K.more h w ks) vs as → D.pureL as = true →
    CallsIn (Fe P none) m P f vs.toArray w fun e w' => ∃ K', K.le K' ∧ Sim C K' (if ks.isEmpty || o.d.flat then h else h.kill ks) w' ∧ OutRel K' o e := by
  unfold pureCall at hp
  split at hp <;> try (cases hp; done)
  · rename_i r h1 hr
    simp only [Option.map_eq_some_iff] at hp
    obtain ⟨⟨r', ks1⟩, hf, rfl⟩ := hp
    obtain ⟨i1, i2⟩ := hF.ok _ _ _ _ _ hr
    refine ⟨i1, fun C K h w vs m ks hC s hd1 hp1 => ?_⟩
    obtain ⟨hC', s'⟩ := own_sim hC (s.freeze ks)
    refine CallsIn.monoE (i2 _ _ w vs m hC' s' (DenL.move (S := K.more h w ks) (S' := { K.more h w ks with loc := fun _ => none }) ⟨fun _ _ _ x => x, fun _ _ x => x⟩ hd1 hp1)) ?_
    rintro e w1 ⟨K1, _, s1, ho⟩
    cases ho with
    | ret _ v hv =>
      obtain ⟨K', j1, j2, j3⟩ := pure_back s ks s1 hv hf
      exact ⟨K', j1, j2, .ret _ _ j3⟩
  · rename_i r h1 hr
    simp only [Option.map_eq_some_iff] at hp
    obtain ⟨⟨r', ks1⟩, hf, rfl⟩ := hp
    obtain ⟨i1, i2⟩ := hF.ok _ _ _ _ _ hr
    refine ⟨i1, fun C K h w vs m ks hC s hd1 hp1 => ?_⟩
    obtain ⟨hC', s'⟩ := own_sim hC (s.freeze ks)
    refine CallsIn.monoE (i2 _ _ w vs m hC' s' (DenL.move (S := K.more h w ks) (S' := { K.more h w ks with loc := fun _ => none }) ⟨fun _ _ _ x => x, fun _ _ x => x⟩ hd1 hp1)) ?_
    rintro e w1 ⟨K1, _, s1, ho⟩
    cases ho with
    | pan _ v hv =>
      obtain ⟨K', j1, j2, j3⟩ := pure_back s ks s1 hv hf
      exact ⟨K', j1, j2, .pan _ _ j3⟩
/-- An empty list is nil, or it is not. -/
theorem Den.empty_or {K : Ctx} {v : Value} (h : Den K v (.sl false [])) : Den K v (.val (.slice none 0 0)) ∨ Den K v .sle := by
  cases h with
  | slnil _ => exact .inl (.val _ rfl)
  | sl b o cap z sz es us hz hn hm hs hc h1 k => exact .inr (.sle b o cap hm)
theorem split_ok {P : Program} {pg : Pg} {R : Rc} (hF : FnS P pg R.fn) {f : FuncId} {as : List D} {o : Out} (hp : splitNil R f as = some o) : FnIs P f ∧ ∀ (C : Cx) (K : Ctx) (h : Heap) (w : World) (vs : List Value) (m : Nat) (ks : List Nat), IsC P pg C → Sim C K h w → DenL (K.more h w ks) vs as → D.pureL as = true →
    CallsIn (Fe P none) m P f vs.toArray w fun e w' => ∃ K', K.le K' ∧ Sim C K' (if ks.isEmpty || o.d.flat then h else h.kill ks) w' ∧ OutRel K' o e := by
  unfold splitNil at hp
  split at hp <;> try (cases hp; done)
  split at hp <;> cases hp
  rename_i h1 h2
  obtain ⟨i1, i2⟩ := pure_ok hF h1
  obtain ⟨_, j2⟩ := pure_ok hF h2
  refine ⟨i1, fun C K h w vs m ks hC s hd1 _ => ?_⟩
  cases hd1 with
  | cons v _ vs _ a b =>
    cases b
    rcases a.empty_or with a | a
    · exact i2 C K h w _ m ks hC s (.cons _ _ _ _ a .nil) rfl
    · exact j2 C K h w _ m ks hC s (.cons _ _ _ _ a .nil) rfl
theorem pureS_ok {P : Program} {pg : Pg} {R : Rc} (hF : FnS P pg R.fn) {f : FuncId} {as : List D} {o : Out} (hp : pureS R f as = some o) : FnIs P f ∧ ∀ (C : Cx) (K : Ctx) (h : Heap) (w : World) (vs : List Value) (m : Nat) (ks : List Nat), IsC P pg C → Sim C K h w → DenL (K.more h w ks) vs as → D.pureL as = true →
    CallsIn (Fe P none) m P f vs.toArray w fun e w' => ∃ K', K.le K' ∧ Sim C K' (if ks.isEmpty || o.d.flat then h else h.kill ks) w' ∧ OutRel K' o e := by
  unfold pureS orS at hp
  split at hp
  · rename_i h1
    cases hp
    exact pure_ok hF h1
  · exact split_ok hF hp
theorem split_flat {R : Rc} {f : FuncId} {as : List D} {o : Out} (hp : splitNil R f as = some o) : o.d.flat = true := by
  unfold splitNil at hp
  split at hp <;> try (cases hp; done)
  split at hp <;> cases hp
  rfl
theorem Den.full {K1 K' : Ctx} {v : Value} {k o m sz c : Nat} {d : D} (h1 : Den K1 v (.slr k o m sz (some c))) (h2 : Den K' v d) : Den K' v (fullD m c d) := by
  unfold fullD
  split
  · rename_i es
    split
    · rename_i hm
      subst hm
      cases h1 with
      | slr k o n sz b m' cap c' hb h1 h2' h3 h4 h5 =>
        cases h2 with
        | sl b2 o2 cap2 z sz2 es us hz hn hm hs hc h1' kk =>
          exact .sl _ _ _ true sz2 es us (fun _ => h5 _ rfl) hn hm hs hc h1' kk
    · exact h2
  · exact h2
theorem fullD_flat (m c : Nat) (d : D) : (fullD m c d).flat = d.flat := by
  unfold fullD
  split
  · split <;> rfl
  · rfl
theorem pureT_ok {P : Program} {pg : Pg} {R : Rc} (hF : FnS P pg R.fn) {f : FuncId} {o : Out} (hp : pureT R f = some o) : FnIs P f ∧ ∀ (C : Cx) (K : Ctx) (h : Heap) (w : World) (m : Nat), IsC P pg C → Sim C K h w →
    CallsIn (Fe P none) m P f #[] w fun e w' => ∃ K', K.le K' ∧ Sim C K' h w' ∧ OutRel K' o e := by
  unfold pureT at hp
  split at hp
  · rename_i k o1 n sz c h1 hr
    simp only [Option.map_eq_some_iff] at hp
    obtain ⟨⟨r', ks1⟩, hf, rfl⟩ := hp
    obtain ⟨i1, i2⟩ := hF.ok _ _ _ _ _ hr
    refine ⟨i1, fun C K h w m hC s => ?_⟩
    obtain ⟨hC', s'⟩ := own_sim hC (s.freeze [])
    refine CallsIn.monoE (i2 _ _ w [] m hC' s' .nil) ?_
    rintro e w1 ⟨K1, _, s1, ho⟩
    cases ho with
    | ret _ v hv =>
      obtain ⟨K', j1, j2, j3⟩ := pure_back s [] s1 hv hf
      exact ⟨K', j1, by simpa using j2, .ret _ _ (Den.full hv j3)⟩
  · obtain ⟨i1, i2⟩ := pureS_ok hF hp
    refine ⟨i1, fun C K h w m hC s => ?_⟩
    have := i2 C K h w [] m [] hC s .nil rfl
    simpa using this
theorem call_ok {P : Program} {pg : Pg} {R : Rc} (hF : FnS P pg R.fn) : FnS P pg (call pg R) := by
  refine ⟨fun f args h out h' hc => ?_⟩
  unfold call at hc
  split at hc
  · split at hc
    · rename_i p hr
      cases hc
      exact hF.ok f args h out h' hr
    · simp only [Option.map_eq_some_iff, Prod.mk.injEq] at hc
      obtain ⟨o, hp, rfl, rfl⟩ := hc
      obtain ⟨i1, i2⟩ := split_ok hF hp
      refine ⟨i1, fun C K w vs m hC s hd => ?_⟩
      have hpu : D.pureL args = true := by
        unfold splitNil at hp
        split at hp <;> first | rfl | cases hp
      have := i2 C K h w vs m [] hC s (hd.mono more_le) hpu
      simpa using this
  · split at hc <;> try (cases hc; done)
    rename_i as ks he
    simp only [Option.map_eq_some_iff, Prod.mk.injEq] at hc
    obtain ⟨o, hp, rfl, rfl⟩ := hc
    cases args with
    | nil =>
      simp only [each, Option.some.injEq, Prod.mk.injEq] at he
      obtain ⟨rfl, rfl⟩ := he
      obtain ⟨i1, i2⟩ := pureT_ok hF hp
      refine ⟨i1, fun C K w vs m hC s hd => ?_⟩
      cases hd
      simpa using i2 C K h w m hC s
    | cons a args =>
    obtain ⟨i1, i2⟩ := pureS_ok hF hp
    refine ⟨i1, fun C K w vs m hC s hd => ?_⟩
    obtain ⟨hd1, hp1⟩ := frz_denL (S := ks) s he (fun _ x => x) hd
    exact i2 C K h w vs m ks hC s hd1 hp1
end Go.Em
