/- Code does what the evaluator says: all code. -/
import Derived.Test.YtfemldhlanoakaaGreatDoorEmQ
namespace Go.Em
open Go Go.RowKit

section
variable {P : Program} {pg : Pg} {n : Nat} {R : Rc}

theorem Fd.env {K : Ctx} {N : Nat} {s : St} {a : Act} (f : Fd K N s a) (h : Heap) : Fd K N { s with h := h } a := ⟨f.fr, f.df⟩

/-- The loop's block as it is laid. -/
theorem loop_new {C : Cx} {K : Ctx} {h h' : Heap} {w : World} (hC : IsC P pg C) (hs : Sim C K h w) {N : Nat} {s : St} {a : Act} (hf : Fd K N s a) {t : Nat} {ps : Array Tmp} {assign body : Code} {as bd : Cd} (hps : ∀ p, p ∈ ps.toList → p < N) (has : Cd.of P N assign = some as) (hbd : Cd.of P N body = some bd)
    {fn : FuncId} (hfn : (P.funcs[fn]?).isSome = true) {dn dnb z : Nat} (hdn : K.loc dn = some (dnb, z)) (ha : h.alloc t (.loop { e := s.e, ps := ps.toList, as, bd, dn, st := .ready, pe := .normal }) = some h') :
    ∃ K', K.le K' ∧ K'.loc t = some (w.heap.size, 0) ∧ Sim C K' h' (w.alloc (.loop { state := .ready, pending := none, fn, tmps := a.tmps, params := ps, assign, body, defers := dnb })) := by
  have hle := Ctx.at_le w.heap.size 0 (hs.fresh t (alloc_some ha).1)
  have hlen : s.e.length = N := hf.fr.len
  obtain ⟨h1, h2⟩ := hs.new ha 0 (w' := w.alloc (.loop { state := .ready, pending := none, fn, tmps := a.tmps, params := ps, assign, body, defers := dnb })) ((Below.refl _ w).alloc (Nat.le_refl _) _) (World.alloc_heap_new w _)
    (show BlkRel C.ofc _ 0 _ (.loop _) from ⟨fn, a.tmps, assign, body, dnb, z, by simp [Ex.code], by rw [hC.hofc]; exact hfn, by rw [hC.hofc]; simp only [lk]; rw [hlen]; exact has, by rw [hC.hofc]; simp only [lk]; rw [hlen]; exact hbd,
      by simp only; rw [hlen]; exact hf.fr.size, fun t ht => (hf.fr.slots t (by simp only at ht; rw [hlen] at ht; exact ht)).mono hle, fun p hp => by simp only; rw [hlen]; exact hps p hp, hle.loc _ _ hdn⟩)
  exact ⟨_, h1, K.at_same _ _ _, h2⟩

/-- No code of ours jumps to a label. -/
def ungo (Q : Exit → Act → World → Prop) : Exit → Act → World → Prop
  | .goto _, _, _ => False
  | e, a, w => Q e a w
theorem stepR_scope {P : Program} {b : Frame} {a : Act} {k : List Item} {cs : List Frame} {w : World} {c : Code} : step P (lone (b.atR a (.code (.scope c) :: k)) cs w) = .next (lone (b.atR a (.code c :: .inScope c :: k)) cs w) :=
  step_lone_go (by simp [stepG, stepG.exec, Frame.atR])
theorem stepR_inScope {P : Program} {b : Frame} {a : Act} {k : List Item} {cs : List Frame} {w : World} {c : Code} : step P (lone (b.atR a (.inScope c :: k)) cs w) = .next (lone (b.atR a k) cs w) :=
  step_lone_go (by simp [stepG, stepG.exec, Frame.atR])
theorem wpIn_scope {F : Fence} {n : Nat} {P : Program} {Q : Exit → Act → World → Prop} {a : Act} {w : World} {c : Code} (h : c.wpIn F n P (ungo Q) a w) : (Code.scope c).wpIn F n P Q a w := by
  intro b k cs hro hb hr
  have h0 : (lone (b.atR a (.code (.scope c) :: k)) cs w).fenced P F := fenced_calm hb hr rfl
  obtain ⟨e, a₁, w₁, hq, harr⟩ := h b (.inScope c :: k) cs hro hb hr
  cases e with
  | normal => exact ⟨.normal, a₁, w₁, hq, .head h0 stepR_scope (StepsIn.trans harr (.one (fenced_calm hb hr rfl) stepR_inScope))⟩
  | exit id =>
    have hx : exitTo id (.inScope c :: k) = exitTo id k := by simp [exitTo]
    exact ⟨.exit id, a₁, w₁, hq, fun k' hk => .head h0 stepR_scope (harr.1 k' (by rw [hx]; exact hk)),
      fun hr' hk => let ⟨k₁, h1, h2⟩ := harr.2 hr' (by rw [hx]; exact hk); ⟨k₁, h1, .head h0 stepR_scope h2⟩⟩
  | goto l => exact hq.elim
  | ret => exact ⟨_, a₁, w₁, hq, .of_steps (.one h0 stepR_scope) harr⟩
  | panic ch => exact ⟨_, a₁, w₁, hq, .of_steps (.one h0 stepR_scope) harr⟩
  | outgrown => exact ⟨_, a₁, w₁, hq, .of_steps (.one h0 stepR_scope) harr⟩

theorem range_sound (hR : RSound P pg n R) {c : Cfg} (hc : c.pg = pg) {g : Operand} {ps : Array Tmp} {assign body : Code} {xg : X} {as bd : Cd} (hx : X.of c.N g = some xg) (has : Cd.of P c.N assign = some as) (hbd : Cd.of P c.N body = some bd) (hps : ∀ p, p ∈ ps.toList → p < c.N)
    {s : St} {x : Ex} {s' : St} (hq : (Cd.rangeF xg ps.toList as bd).ev c R s = some (x, s')) {C : Cx} {K : Ctx} {a : Act} {w : World} {rb : Option Nat} {m : Nat} {QQ : Exit → Act → World → Prop} (hC : IsC P pg C) (hrb : RndOk K c.r rb) (hs : Sim C K s.h w) (hf : Fd K c.N s a) (hp : Post C K c.N x s' QQ) :
    (Code.rangeFunc g ps assign body).wpIn (Fe P rb) m P QQ a w := by
  refine wpIn_rangeFunc (fun fn hfn => ?_)
  have hfn' : (P.funcs[fn]?).isSome = true := hfn
  have hdx := hf.fr.rd hs hx
  have hpgl : c.pg.gl = C.pg.gl := by rw [hc, hC.hpg]
  rw [← hpgl] at hdx
  simp only [Cd.ev] at hq
  -- the call of the function, and what follows
  have main : ∀ (h2 : Heap) (K2 : Ctx) (w2 : World) (l dn dnb : Nat) (mark : List Deferred) (df : List Df), K.le K2 → K2.loc (s.h.next + 1) = some (l, 0) → Sim C K2 h2 w2 → DfRel K2 df (mark ++ a.defers) →
      (match rd c.pg.gl s.e xg with
        | .fn (.func f) fs cs => match R.fn f ((fs ++ [.yld (s.h.next + 1)]) ++ cs) h2 with
          | some (.ret _, h3) => match h3.get (s.h.next + 1) with
            | some (.loop q) => if q.st = .busy then none else (match q.pe with
              | .pan _ => none
              | x => some (x, { e := s.e, h := h3.set (s.h.next + 1) (some (.loop { q with st := .exhausted })), df }))
            | _ => none
          | some (.pan d, h3) => some (.pan d, { e := s.e, h := h3, df })
          | none => none
        | _ => none) = some (x, s') →
      (Instr.enterLoop fn a.tmps ps assign body rb).run P w = .ok (l, mark) w2 →
      ∃ (l : Nat) (mark : List Deferred) (w₁ : World) (d : Deferred) (w₁' : World) (f : FuncId) (args : Array Value) (w₂ : World),
        (Instr.enterLoop fn a.tmps ps assign body (Fe P rb).round).run P w = .ok (l, mark) w₁ ∧ (resolve a.eval (rangeCall g l) 0).run P w₁ = .ok d w₁' ∧ (∀ f', Target.leads P w₁' d.target d.args = some f' → (Fe P rb).fn f') ∧
        (invoke d.target d.args).run P w₁' = .ok (.enter f args) w₂ ∧ ((Fe P rb).depth.isSome = true → 1 ≤ m) ∧ CallsIn (Fe P rb) (m - 1) P f args w₂ (rangePost (Fe P rb) m P l QQ { a with defers := mark ++ a.defers }) := by
    intro h2 K2 w2 l dn dnb mark df hle hl hs2 hdf hev hrun
    have hfr2 : Fr K2 c.N s.e { a with defers := mark ++ a.defers } := by
      have := hf.fr.mono hle; exact ⟨this.size, this.len, this.slots⟩
    split at hev <;> try (cases hev; done)
    rename_i f fs cs hrd
    rw [hrd] at hdx
    obtain ⟨v, hv⟩ : ∃ v, a.eval g = v := ⟨_, rfl⟩
    rw [hv] at hdx
    cases hdx with
    | fn _ us ws _ _ hus hws =>
      have hargs : DenL K2 ((us ++ [Value.func (.yield l) #[] #[]]) ++ ws) ((fs ++ [.yld (s.h.next + 1)]) ++ cs) := ((hus.mono hle).append (.cons _ _ _ _ (.yld _ _ _ hl) .nil)).append (hws.mono hle)
      have hok : ∀ out h3, R.fn f ((fs ++ [.yld (s.h.next + 1)]) ++ cs) h2 = some (out, h3) → (∀ K3 w3 e, K2.le K3 → Sim C K3 h3 w3 → OutRel K3 out e → rangePost (Fe P rb) m P l QQ { a with defers := mark ++ a.defers } e w3) →
          ∃ (l : Nat) (mark : List Deferred) (w₁ : World) (d : Deferred) (w₁' : World) (f : FuncId) (args : Array Value) (w₂ : World),
            (Instr.enterLoop fn a.tmps ps assign body (Fe P rb).round).run P w = .ok (l, mark) w₁ ∧ (resolve a.eval (rangeCall g l) 0).run P w₁ = .ok d w₁' ∧ (∀ f', Target.leads P w₁' d.target d.args = some f' → (Fe P rb).fn f') ∧
            (invoke d.target d.args).run P w₁' = .ok (.enter f args) w₂ ∧ ((Fe P rb).depth.isSome = true → 1 ≤ m) ∧ CallsIn (Fe P rb) (m - 1) P f args w₂ (rangePost (Fe P rb) m P l QQ { a with defers := mark ++ a.defers }) := fun out h3 hcall hpost => by
        obtain ⟨hfi, hcs⟩ := hR.fn.ok _ _ _ _ _ hcall
        refine ⟨l, mark, w2, { target := .fn (.func f) ws.toArray, args := us.toArray ++ (#[Value.func (.yield l) #[] #[]] : Array Value) }, w2, f, ((us ++ [Value.func (.yield l) #[] #[]]) ++ ws).toArray, w2, hrun, ?_, ?_, ?_, fun h => by simp [Fe] at h, ?_⟩
        · have hce : a.eval (.const (.func (.yield l) #[] #[])) = .func (.yield l) #[] #[] := rfl
          simp [resolve, hv, Deferred.ofValue, hce]
        · intro f' hf'
          simp only [Target.leads, Option.some.injEq] at hf'
          rw [← hf']; exact fn_some hfi
        · have e1 : us.toArray ++ (#[Value.func (.yield l) #[] #[]] : Array Value) ++ ws.toArray = ((us ++ [Value.func (.yield l) #[] #[]]) ++ ws).toArray := by apply Array.ext'; simp
          simp only [invoke, e1]
          exact fn_run hfi _ w2
        · refine callsIn_fe (CallsIn.monoE (hcs C K2 w2 _ (m - 1) hC hs2 hargs) ?_)
          rintro e w3 ⟨K3, j1, j2, j3⟩
          exact hpost K3 w3 e j1 j2 j3
      split at hev <;> try (cases hev; done)
      · rename_i d0 h3 hcall
        split at hev <;> try (cases hev; done)
        rename_i q hq3
        split at hev <;> try (cases hev; done)
        rename_i hbusy
        refine hok _ _ hcall fun K3 w3 e j1 j2 j3 => ?_
        cases j3 with
        | ret _ v0 hv0 =>
          obtain ⟨b', n', O, i1, i2, i3, ⟨fn0, tmps0, as0, bd0, dnb0, z0, rfl, i5, i6, i7, i8, i9, i10, i11⟩, i12⟩ := j2.live _ _ hq3
          have hl3 := j1.loc _ _ hl
          rw [hl3] at i1; cases i1
          have hend := run_endLoop (P := P) i3 hbusy
          have hlt : l < w3.heap.size := (Array.getElem?_eq_some_iff.1 i3).1
          have hs4 := j2.turn (B := .loop { q with st := .exhausted }) hq3 hl3 (putObj_grown (w := w3) (b := l) (.loop { state := .exhausted, pending := q.pe.code, fn := fn0, tmps := tmps0, params := q.ps.toArray, assign := as0, body := bd0, defers := dnb0 })) (World.putObj_heap_same hlt)
            (show BlkRel C.ofc _ _ _ (.loop _) from ⟨fn0, tmps0, as0, bd0, dnb0, z0, rfl, i5, i6, i7, i8, i9, i10, i11⟩)
          have hfd : ∀ h, Fd K3 c.N { e := s.e, h := h, df := df } { a with defers := mark ++ a.defers } := fun h => ⟨hfr2.mono j1, hdf.mono j1⟩
          refine ⟨_, _, hend, ?_⟩
          cases hpe : q.pe with
          | normal =>
            rw [hpe] at hev hs4
            simp only [Option.some.injEq, Prod.mk.injEq] at hev
            obtain ⟨rfl, rfl⟩ := hev
            simp only [Ex.code] at hs4 ⊢
            exact hp K3 _ _ .normal (hle.trans j1) hs4 (hfd _) .normal
          | exit id =>
            rw [hpe] at hev hs4
            simp only [Option.some.injEq, Prod.mk.injEq] at hev
            obtain ⟨rfl, rfl⟩ := hev
            simp only [Ex.code] at hs4 ⊢
            exact wpIn_exit (hp K3 _ _ (.exit id) (hle.trans j1) hs4 (hfd _) (.exit id))
          | ret =>
            rw [hpe] at hev hs4
            simp only [Option.some.injEq, Prod.mk.injEq] at hev
            obtain ⟨rfl, rfl⟩ := hev
            simp only [Ex.code] at hs4 ⊢
            exact wpIn_ret (hp K3 _ _ .ret (hle.trans j1) hs4 (hfd _) .ret)
          | pan d => rw [hpe] at hev; simp at hev
      · rename_i d0 h3 hcall
        simp only [Option.some.injEq, Prod.mk.injEq] at hev
        obtain ⟨rfl, rfl⟩ := hev
        refine hok _ _ hcall fun K3 w3 e j1 j2 j3 => ?_
        cases j3 with
        | pan _ v0 hv0 => exact hp K3 _ _ _ (hle.trans j1) j2 ⟨hfr2.mono j1, hdf.mono j1⟩ (.pan _ _ hv0)
  cases hr : c.r with
  | none =>
    rw [hr] at hq hrb
    have hrb0 : rb = none := by cases rb with | none => rfl | some b => exact hrb.elim
    subst hrb0
    simp only at hq
    split at hq <;> try (cases hq; done)
    rename_i h1 dn df hm
    simp only [Option.map_eq_some_iff, Prod.mk.injEq] at hm
    obtain ⟨h1', ha1, rfl, rfl, rfl⟩ := hm
    split at hq <;> try (cases hq; done)
    rename_i h2 ha2
    have hs0 : Sim C K (s.h.bump 2) w := hs.bump 2
    have hle1 := Ctx.at_le w.heap.size 0 (hs0.fresh _ (alloc_some ha1).1)
    obtain ⟨_, hs1⟩ := hs0.new ha1 0 (w' := w.alloc (.deferred (some []))) ((Below.refl _ w).alloc (Nat.le_refl _) _) (World.alloc_heap_new w _) (show BlkRel C.ofc _ 0 _ .mark from rfl)
    obtain ⟨K2, hle2, hl2, hs2⟩ := loop_new hC hs1 (hf.mono hle1) hps has hbd hfn' (K.at_same _ _ _) ha2
    have hsz : (w.alloc (.deferred (some []))).heap.size = w.heap.size + 1 := by simp
    rw [hsz] at hl2
    exact main h2 K2 _ (w.heap.size + 1) s.h.next w.heap.size [{ target := .collected w.heap.size, args := #[] }] (.mark s.h.next :: s.df) (hle1.trans hle2) hl2 hs2
      (.mark _ _ _ _ _ (hle2.loc _ _ (K.at_same _ _ _)) (hf.df.mono (hle1.trans hle2))) hq (run_enterLoop_outer _ _ _ _ _)
  | some r =>
    rw [hr] at hq hrb
    obtain ⟨b, rfl⟩ : ∃ b, rb = some b := by cases rb with | none => exact hrb.elim | some b => exact ⟨b, rfl⟩
    obtain ⟨z, hz⟩ := hrb
    simp only at hq
    split at hq <;> try (cases hq; done)
    rename_i h1 dn df hm
    split at hm <;> cases hm
    rename_i q hgq
    split at hq <;> try (cases hq; done)
    rename_i h2 ha2
    have hs0 : Sim C K (s.h.bump 2) w := hs.bump 2
    obtain ⟨b', n', O, i1, i2, i3, ⟨fn0, tmps0, as0, bd0, dnb0, z0, rfl, i5, i6, i7, i8, i9, i10, i11⟩, i12⟩ := hs0.live _ _ hgq
    rw [hz] at i1; cases i1
    obtain ⟨K2, hle2, hl2, hs2⟩ := loop_new hC hs0 hf hps has hbd hfn' i11 ha2
    exact main h2 K2 _ w.heap.size q.dn dnb0 [] s.df hle2 hl2 hs2 (hf.df.mono hle2) hq (run_enterLoop_inner i3 _ _ _ _ _)

theorem code_sound (hR : RSound P pg n R) : ∀ (code : Code) (cd : Cd) (c : Cfg), c.pg = pg → Cd.of P c.N code = some cd → ∀ (s : St) (x : Ex) (s' : St), cd.ev c R s = some (x, s') → ∀ (C : Cx) (K : Ctx) (a : Act) (w : World) (rb : Option Nat) (m : Nat) (QQ : Exit → Act → World → Prop),
    IsC P pg C → RndOk K c.r rb → Sim C K s.h w → Fd K c.N s a → Post C K c.N x s' QQ → code.wpIn (Fe P rb) m P QQ a w := by
  intro code
  induction code with
  | skip =>
    intro cd c hc h s x s' hq C K a w rb m QQ hC hrb hs hf hp
    cases h
    simp only [Cd.ev, Option.some.injEq, Prod.mk.injEq] at hq
    obtain ⟨rfl, rfl⟩ := hq
    exact wpIn_skip (hp K a w .normal (.refl K) hs hf .normal)
  | label l =>
    intro cd c hc h s x s' hq C K a w rb m QQ hC hrb hs hf hp
    cases h
    simp only [Cd.ev, Option.some.injEq, Prod.mk.injEq] at hq
    obtain ⟨rfl, rfl⟩ := hq
    exact wpIn_label (hp K a w .normal (.refl K) hs hf .normal)
  | region id ops draw =>
    intro cd c hc h s x s' hq C K a w rb m QQ hC hrb hs hf hp
    cases draw with
    | true =>
      simp only [Cd.of, Option.bind_eq_some_iff] at h
      obtain ⟨gs, hgs, h⟩ := h
      split at h
      · rename_i hok
        cases h
        exact draw_sound hR hc hgs (drawOf_g _ _ _ _) hok hC hq hrb hs hf hp
      · split at h <;> cases h
        rename_i hok
        exact draw_sound hR hc hgs (drawOf_g _ _ _ _) hok hC hq hrb hs hf hp
    | false =>
      simp only [Cd.of, Option.map_eq_some_iff] at h
      obtain ⟨gs, hgs, rfl⟩ := h
      simp only [Cd.ev] at hq
      exact wpIn_region_list (gs_sound hR hc hC _ gs hgs _ x s' K a w hq hrb (hs.bump _) (hf.env _) hp)
  | seq u v ihu ihv =>
    intro cd c hc h s x s' hq C K a w rb m QQ hC hrb hs hf hp
    simp only [Cd.of, Option.bind_eq_some_iff, Option.some.injEq] at h
    obtain ⟨cu, hu, cv, hv, rfl⟩ := h
    simp only [Cd.ev] at hq
    refine wpIn_seq ?_
    cases hu1 : cu.ev c R s with
    | none => rw [hu1] at hq; cases hq
    | some r =>
      obtain ⟨x1, s1⟩ := r
      rw [hu1] at hq
      refine ihu cu c hc hu s x1 s1 hu1 C K a w rb m _ hC hrb hs hf fun K' a' w' ex h1 h2 h3 h4 => ?_
      cases x1 with
      | normal =>
        cases h4
        exact ihv cv c hc hv s1 x s' hq C K' a' w' rb m QQ hC (hrb.mono h1) h2 h3 (hp.mono h1)
      | exit id => cases hq; cases h4; exact hp K' a' w' _ h1 h2 h3 (.exit id)
      | ret => cases hq; cases h4; exact hp K' a' w' _ h1 h2 h3 .ret
      | pan d => cases hq; cases h4 with | pan _ v hv => exact hp K' a' w' _ h1 h2 h3 (.pan d v hv)
  | cond g u v ihu ihv =>
    intro cd c hc h s x s' hq C K a w rb m QQ hC hrb hs hf hp
    simp only [Cd.of, Option.bind_eq_some_iff, Option.some.injEq] at h
    obtain ⟨xg, hg, cu, hu, cv, hv, rfl⟩ := h
    have hdg := hf.fr.rd hs hg
    rw [hC.hpg] at hdg
    simp only [Cd.ev, hc] at hq
    split at hq <;> try (cases hq; done)
    · rename_i hb
      rw [hb] at hdg
      exact wpIn_cond_true hdg.val_eq (ihu cu c hc hu s x s' hq C K a w rb m QQ hC hrb hs hf hp)
    · rename_i hb
      rw [hb] at hdg
      exact wpIn_cond_false hdg.val_eq (ihv cv c hc hv s x s' hq C K a w rb m QQ hC hrb hs hf hp)
  | block id u ih =>
    intro cd c hc h s x s' hq C K a w rb m QQ hC hrb hs hf hp
    simp only [Cd.of, Option.map_eq_some_iff] at h
    obtain ⟨cu, hu, rfl⟩ := h
    simp only [Cd.ev] at hq
    refine wpIn_block ?_
    cases hu1 : cu.ev c R s with
    | none => rw [hu1] at hq; cases hq
    | some r =>
      obtain ⟨x1, s1⟩ := r
      rw [hu1] at hq
      refine ih cu c hc hu s x1 s1 hu1 C K a w rb m _ hC hrb hs hf fun K' a' w' ex h1 h2 h3 h4 => ?_
      cases x1 with
      | normal => cases hq; cases h4; exact hp K' a' w' _ h1 h2 h3 .normal
      | exit i =>
        cases h4
        simp only [Exit.inBlock]
        simp only at hq
        by_cases hi : i = id
        · rw [if_pos hi] at hq ⊢; cases hq; exact hp K' a' w' _ h1 h2 h3 .normal
        · rw [if_neg hi] at hq ⊢; cases hq; exact hp K' a' w' _ h1 h2 h3 (.exit i)
      | ret => cases hq; cases h4; exact hp K' a' w' _ h1 h2 h3 .ret
      | pan d => cases hq; cases h4 with | pan _ v hv => exact hp K' a' w' _ h1 h2 h3 (.pan d v hv)
  | loop u ih =>
    intro cd c hc h s x s' hq C K a w rb m QQ hC hrb hs hf hp
    simp only [Cd.of, Option.map_eq_some_iff] at h
    obtain ⟨cu, hu, rfl⟩ := h
    simp only [Cd.ev] at hq
    exact wpIn_loop_rounds _ (hR.lp c cu s x s' hq u hc hu C K a w rb m QQ hC hrb hs hf hp)
  | scope u ih =>
    intro cd c hc h s x s' hq C K a w rb m QQ hC hrb hs hf hp
    simp only [Cd.of, Option.map_eq_some_iff] at h
    obtain ⟨cu, hu, rfl⟩ := h
    simp only [Cd.ev] at hq
    refine wpIn_scope ?_
    refine ih cu c hc hu s x s' hq C K a w rb m _ hC hrb hs hf fun K' a' w' ex h1 h2 h3 h4 => ?_
    have hq' := hp K' a' w' ex h1 h2 h3 h4
    cases h4 with
    | normal => exact hq'
    | exit i => exact hq'
    | ret => exact hq'
    | pan d v hv => exact hq'
  | exit id =>
    intro cd c hc h s x s' hq C K a w rb m QQ hC hrb hs hf hp
    cases h
    simp only [Cd.ev, Option.some.injEq, Prod.mk.injEq] at hq
    obtain ⟨rfl, rfl⟩ := hq
    exact wpIn_exit (hp K a w _ (.refl K) hs hf (.exit id))
  | ret =>
    intro cd c hc h s x s' hq C K a w rb m QQ hC hrb hs hf hp
    cases h
    simp only [Cd.ev, Option.some.injEq, Prod.mk.injEq] at hq
    obtain ⟨rfl, rfl⟩ := hq
    exact wpIn_ret (hp K a w _ (.refl K) hs hf .ret)
  | rangeFunc g ps u v ihu ihv =>
    intro cd c hc h s x s' hq C K a w rb m QQ hC hrb hs hf hp
    simp only [Cd.of, Option.bind_eq_some_iff] at h
    obtain ⟨xg, hg, cu, hu, cv, hv, h⟩ := h
    split at h <;> cases h
    rename_i hps
    exact range_sound hR hc hg hu hv (fun p hp => by simpa using List.all_eq_true.1 hps p hp) hq hC hrb hs hf hp
  | _ => intro cd c hc h; simp [Cd.of] at h
end
end Go.Em
