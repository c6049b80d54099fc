/- Code does what the evaluator says: all code. -/
import Derived.Test.YtkbamkdgiglljaaGreatEmQ
import Derived.RangeFuncIn
import Derived.RecoverIn
namespace Go.Em
open Go Go.RowKit

section
variable {P : Program} {pg : Pg} {n : Nat} {R : Rc}

theorem Fd.env {K : Ctx} {N : Nat} {s : St} {a : Act} (f : Fd K N s a) (h : Heap) : Fd K N { s with h := h } a := ⟨f.fr, f.df⟩

theorem loop_new {C : Cx} {K : Ctx} {h h' : Heap} {w : World} (hC : IsC P pg C) (hs : Sim C K h w) {N : Nat} {s : St} {a : Act} (hf : Fd K N s a) {t : Nat} {ps : Array Tmp} {assign body : Code} {as bd : Cd} (hps : ∀ p, p ∈ ps.toList → p < N) (has : Cd.of P N assign = some as) (hbd : Cd.of P N body = some bd)
    {fn : FuncId} (hfn : (P.funcs[fn]?).isSome = true) {dn dnb z : Nat} (hdn : K.loc dn = some (dnb, z)) (ha : h.alloc t (.loop { e := s.e, ps := ps.toList, as, bd, dn, st := .ready, pe := .normal }) = some h') :
    ∃ K', K.le K' ∧ K'.loc t = some (w.heap.size, 0) ∧ Sim C K' h' (w.alloc (.loop { state := .ready, pending := none, fn, tmps := a.tmps, params := ps, assign, body, defers := dnb })) := by
  have hle := Ctx.at_le w.heap.size 0 (hs.fresh t (alloc_some ha).1)
  have hlen : s.e.length = N := hf.fr.len
  obtain ⟨h1, h2⟩ := hs.new ha 0 (w' := w.alloc (.loop { state := .ready, pending := none, fn, tmps := a.tmps, params := ps, assign, body, defers := dnb })) ((Below.refl _ w).alloc (Nat.le_refl _) _) (World.alloc_heap_new w _)
    (show BlkRel C.ofc _ 0 _ (.loop _) from ⟨fn, a.tmps, assign, body, dnb, z, by simp [Ex.code], by rw [hC.hofc]; exact hfn, by rw [hC.hofc]; simp only [lk]; rw [hlen]; exact has, by rw [hC.hofc]; simp only [lk]; rw [hlen]; exact hbd,
      by simp only; rw [hlen]; exact hf.fr.size, fun t ht => (hf.fr.slots t (by simp only at ht; rw [hlen] at ht; exact ht)).mono hle, fun p hp => by simp only; rw [hlen]; exact hps p hp, hle.loc _ _ hdn⟩)
  exact ⟨_, h1, K.at_same _ _ _, h2⟩

def ungo (Q : Exit → Act → World → Prop) : Exit → Act → World → Prop
  | .goto _, _, _ => False
  | e, a, w => Q e a w
theorem stepR_scope {P : Program} {b : Frame} {a : Act} {k : List Item} {cs : List Frame} {w : World} {c : Code} : step P (lone (b.atR a (.code (.scope c) :: k)) cs w) = .next (lone (b.atR a (.code c :: .inScope c :: k)) cs w) :=
  step_lone_go (by simp [stepG, stepG.exec, Frame.atR])
theorem stepR_inScope {P : Program} {b : Frame} {a : Act} {k : List Item} {cs : List Frame} {w : World} {c : Code} : step P (lone (b.atR a (.inScope c :: k)) cs w) = .next (lone (b.atR a k) cs w) :=
  step_lone_go (by simp [stepG, stepG.exec, Frame.atR])
theorem wpIn_scope {F : Fence} {n : Nat} {P : Program} {Q : Exit → Act → World → Prop} {a : Act} {w : World} {c : Code} (h : c.wpIn F n P (ungo Q) a w) : (Code.scope c).wpIn F n P Q a w := by
  intro b k cs hro hb hr
  have h0 : (lone (b.atR a (.code (.scope c) :: k)) cs w).fenced P F := fenced_calm hb hr rfl
  obtain ⟨e, a₁, w₁, hq, harr⟩ := h b (.inScope c :: k) cs hro hb hr
  cases e with
  | normal => exact ⟨.normal, a₁, w₁, hq, .head h0 stepR_scope (StepsIn.trans harr (.one (fenced_calm hb hr rfl) stepR_inScope))⟩
  | exit id =>
    have hx : exitTo id (.inScope c :: k) = exitTo id k := by simp [exitTo]
    exact ⟨.exit id, a₁, w₁, hq, fun k' hk => .head h0 stepR_scope (harr.1 k' (by rw [hx]; exact hk)),
      fun hr' hk => let ⟨k₁, h1, h2⟩ := harr.2 hr' (by rw [hx]; exact hk); ⟨k₁, h1, .head h0 stepR_scope h2⟩⟩
  | goto l => exact hq.elim
  | ret => exact ⟨_, a₁, w₁, hq, .of_steps (.one h0 stepR_scope) harr⟩
  | panic ch => exact ⟨_, a₁, w₁, hq, .of_steps (.one h0 stepR_scope) harr⟩
  | outgrown => exact ⟨_, a₁, w₁, hq, .of_steps (.one h0 stepR_scope) harr⟩

theorem range_sound (hR : RSound P pg n R) {c : Cfg} (hc : c.pg = pg) {g : Operand} {ps : Array Tmp} {assign body : Code} {xg : X} {as bd : Cd} (hx : X.of c.N g = some xg) (has : Cd.of P c.N assign = some as) (hbd : Cd.of P c.N body = some bd) (hps : ∀ p, p ∈ ps.toList → p < c.N)
    {s : St} {x : Ex} {s' : St} (hq : (Cd.rangeF xg ps.toList as bd).ev c R s = some (x, s')) {C : Cx} {K : Ctx} {a : Act} {w : World} {rb : Option Nat} {m : Nat} {QQ : Exit → Act → World → Prop} (hC : IsC P pg C) (hrb : RndOk K c.r rb) (hs : Sim C K s.h w) (hf : Fd K c.N s a) (hp : Post C K c.N x s' QQ) :
    (Code.rangeFunc g ps assign body).wpIn (Fe P rb) m P QQ a w := by
  refine wpIn_rangeFunc (fun fn hfn => ?_)
  have hfn' : (P.funcs[fn]?).isSome = true := hfn
  have hdx := hf.fr.rd hs hx
  have hpgl : c.pg.gl = C.pg.gl := by rw [hc, hC.hpg]
  rw [← hpgl] at hdx
  simp only [Cd.ev] at hq
  -- the call of the function, and what follows
  have main : ∀ (h2 : Heap) (K2 : Ctx) (w2 : World) (l dn dnb : Nat) (mark : List Deferred) (df : List Df), K.le K2 → K2.loc (s.h.next + 1) = some (l, 0) → Sim C K2 h2 w2 → DfRel K2 df (mark ++ a.defers) →
      (match rd c.pg.gl s.e xg with
        | .fn (.func f) fs cs => match R.fn f ((fs ++ [.yld (s.h.next + 1)]) ++ cs) h2 with
          | some (.ret _, h3) => match h3.get (s.h.next + 1) with
            | some (.loop q) => if q.st = .busy then none else (match q.pe with
              | .pan _ => none
              | x => some (x, { e := s.e, h := h3.set (s.h.next + 1) (some (.loop { q with st := .exhausted })), df }))
            | _ => none
          | some (.pan d, h3) => some (.pan d, { e := s.e, h := h3, df })
          | none => none
        | _ => none) = some (x, s') →
      (Instr.enterLoop fn a.tmps ps assign body rb).run P w = .ok (l, mark) w2 →
      ∃ (l : Nat) (mark : List Deferred) (w₁ : World) (d : Deferred) (w₁' : World) (f : FuncId) (args : Array Value) (w₂ : World),
        (Instr.enterLoop fn a.tmps ps assign body (Fe P rb).round).run P w = .ok (l, mark) w₁ ∧ (resolve a.eval (rangeCall g l) 0).run P w₁ = .ok d w₁' ∧ (∀ f', Target.leads P w₁' d.target d.args = some f' → (Fe P rb).fn f') ∧
        (invoke d.target d.args).run P w₁' = .ok (.enter f args) w₂ ∧ ((Fe P rb).depth.isSome = true → 1 ≤ m) ∧ CallsIn (Fe P rb) (m - 1) P f args w₂ (rangePost (Fe P rb) m P l QQ { a with defers := mark ++ a.defers }) := by
    intro h2 K2 w2 l dn dnb mark df hle hl hs2 hdf hev hrun
    have hfr2 : Fr K2 c.N s.e { a with defers := mark ++ a.defers } := by
      have := hf.fr.mono hle; exact ⟨this.size, this.len, this.slots⟩
    split at hev <;> try (cases hev; done)
    rename_i f fs cs hrd
    rw [hrd] at hdx
    obtain ⟨v, hv⟩ : ∃ v, a.eval g = v := ⟨_, rfl⟩
    rw [hv] at hdx
    cases hdx with
    | fn _ us ws _ _ hus hws =>
      have hargs : DenL K2 ((us ++ [Value.func (.yield l) #[] #[]]) ++ ws) ((fs ++ [.yld (s.h.next + 1)]) ++ cs) := ((hus.mono hle).append (.cons _ _ _ _ (.yld _ _ _ hl) .nil)).append (hws.mono hle)
      have hok : ∀ out h3, R.fn f ((fs ++ [.yld (s.h.next + 1)]) ++ cs) h2 = some (out, h3) → (∀ K3 w3 e, K2.le K3 → Sim C K3 h3 w3 → OutRel K3 out e → rangePost (Fe P rb) m P l QQ { a with defers := mark ++ a.defers } e w3) →
          ∃ (l : Nat) (mark : List Deferred) (w₁ : World) (d : Deferred) (w₁' : World) (f : FuncId) (args : Array Value) (w₂ : World),
            (Instr.enterLoop fn a.tmps ps assign body (Fe P rb).round).run P w = .ok (l, mark) w₁ ∧ (resolve a.eval (rangeCall g l) 0).run P w₁ = .ok d w₁' ∧ (∀ f', Target.leads P w₁' d.target d.args = some f' → (Fe P rb).fn f') ∧
            (invoke d.target d.args).run P w₁' = .ok (.enter f args) w₂ ∧ ((Fe P rb).depth.isSome = true → 1 ≤ m) ∧ CallsIn (Fe P rb) (m - 1) P f args w₂ (rangePost (Fe P rb) m P l QQ { a with defers := mark ++ a.defers }) := fun out h3 hcall hpost => by
        obtain ⟨hfi, hcs⟩ := hR.fn.ok _ _ _ _ _ hcall
        refine ⟨l, mark, w2, { target := .fn (.func f) ws.toArray, args := us.toArray ++ (#[Value.func (.yield l) #[] #[]] : Array Value) }, w2, f, ((us ++ [Value.func (.yield l) #[] #[]]) ++ ws).toArray, w2, hrun, ?_, ?_, ?_, fun h => by simp [Fe] at h, ?_⟩
        · have hce : a.eval (.const (.func (.yield l) #[] #[])) = .func (.yield l) #[] #[] := rfl
          simp [resolve, hv, Deferred.ofValue, hce]
        · intro f' hf'
          simp only [Target.leads, Option.some.injEq] at hf'
          rw [← hf']; exact fn_some hfi
        · have e1 : us.toArray ++ (#[Value.func (.yield l) #[] #[]] : Array Value) ++ ws.toArray = ((us ++ [Value.func (.yield l) #[] #[]]) ++ ws).toArray := by apply Array.ext'; simp
          simp only [invoke, e1]
          exact fn_run hfi _ w2
        · refine callsIn_fe (CallsIn.monoE (hcs C K2 w2 _ (m - 1) hC hs2 hargs) ?_)
          rintro e w3 ⟨K3, j1, j2, j3⟩
          exact hpost K3 w3 e j1 j2 j3
      split at hev <;> try (cases hev; done)
      · rename_i d0 h3 hcall
        split at hev <;> try (cases hev; done)
        rename_i q hq3
        split at hev <;> try (cases hev; done)
        rename_i hbusy
        refine hok _ _ hcall fun K3 w3 e j1 j2 j3 => ?_
        cases j3 with
        | ret _ v0 hv0 =>
          obtain ⟨b', n', O, i1, i2, i3, ⟨fn0, tmps0, as0, bd0, dnb0, z0, rfl, i5, i6, i7, i8, i9, i10, i11⟩, i12⟩ := j2.live _ _ hq3
          have hl3 := j1.loc _ _ hl
          rw [hl3] at i1; cases i1
          have hend := run_endLoop (P := P) i3 hbusy
          have hlt : l < w3.heap.size := (Array.getElem?_eq_some_iff.1 i3).1
          have hs4 := j2.turn (B := .loop { q with st := .exhausted }) hq3 hl3 (putObj_grown (w := w3) (b := l) (.loop { state := .exhausted, pending := q.pe.code, fn := fn0, tmps := tmps0, params := q.ps.toArray, assign := as0, body := bd0, defers := dnb0 })) (World.putObj_heap_same hlt)
            (show BlkRel C.ofc _ _ _ (.loop _) from ⟨fn0, tmps0, as0, bd0, dnb0, z0, rfl, i5, i6, i7, i8, i9, i10, i11⟩)
          have hfd : ∀ h, Fd K3 c.N { e := s.e, h := h, df := df } { a with defers := mark ++ a.defers } := fun h => ⟨hfr2.mono j1, hdf.mono j1⟩
          refine ⟨_, _, hend, ?_⟩
          cases hpe : q.pe with
          | normal =>
            rw [hpe] at hev hs4
            simp only [Option.some.injEq, Prod.mk.injEq] at hev
            obtain ⟨rfl, rfl⟩ := hev
            simp only [Ex.code] at hs4 ⊢
            exact hp K3 _ _ .normal (hle.trans j1) hs4 (hfd _) .normal
          | exit id =>
            rw [hpe] at hev hs4
            simp only [Option.some.injEq, Prod.mk.injEq] at hev
            obtain ⟨rfl, rfl⟩ := hev
            simp only [Ex.code] at hs4 ⊢
            exact wpIn_exit (hp K3 _ _ (.exit id) (hle.trans j1) hs4 (hfd _) (.exit id))
          | ret =>
            rw [hpe] at hev hs4
            simp only [Option.some.injEq, Prod.mk.injEq] at hev
            obtain ⟨rfl, rfl⟩ := hev
            simp only [Ex.code] at hs4 ⊢
            exact wpIn_ret (hp K3 _ _ .ret (hle.trans j1) hs4 (hfd _) .ret)
          | pan d => rw [hpe] at hev; simp at hev
      · rename_i d0 h3 hcall
        simp only [Option.some.injEq, Prod.mk.injEq] at hev
        obtain ⟨rfl, rfl⟩ := hev
        refine hok _ _ hcall fun K3 w3 e j1 j2 j3 => ?_
        cases j3 with
        | pan _ v0 hv0 => exact hp K3 _ _ _ (hle.trans j1) j2 ⟨hfr2.mono j1, hdf.mono j1⟩ (.pan _ _ hv0)
  cases hr : c.r with
  | none =>
    rw [hr] at hq hrb
    have hrb0 : rb = none := by cases rb with | none => rfl | some b => exact hrb.elim
    subst hrb0
    simp only at hq
    split at hq <;> try (cases hq; done)
    rename_i h1 dn df hm
    simp only [Option.map_eq_some_iff, Prod.mk.injEq] at hm
    obtain ⟨h1', ha1, rfl, rfl, rfl⟩ := hm
    split at hq <;> try (cases hq; done)
    rename_i h2 ha2
    have hs0 : Sim C K (s.h.bump 2) w := hs.bump 2
    have hle1 := Ctx.at_le w.heap.size 0 (hs0.fresh _ (alloc_some ha1).1)
    obtain ⟨_, hs1⟩ := hs0.new ha1 0 (w' := w.alloc (.deferred (some []))) ((Below.refl _ w).alloc (Nat.le_refl _) _) (World.alloc_heap_new w _) (show BlkRel C.ofc _ 0 _ .mark from rfl)
    obtain ⟨K2, hle2, hl2, hs2⟩ := loop_new hC hs1 (hf.mono hle1) hps has hbd hfn' (K.at_same _ _ _) ha2
    have hsz : (w.alloc (.deferred (some []))).heap.size = w.heap.size + 1 := by simp
    rw [hsz] at hl2
    exact main h2 K2 _ (w.heap.size + 1) s.h.next w.heap.size [{ target := .collected w.heap.size, args := #[] }] (.mark s.h.next :: s.df) (hle1.trans hle2) hl2 hs2
      (.mark _ _ _ _ _ (hle2.loc _ _ (K.at_same _ _ _)) (hf.df.mono (hle1.trans hle2))) hq (run_enterLoop_outer _ _ _ _ _)
  | some r =>
    rw [hr] at hq hrb
    obtain ⟨b, rfl⟩ : ∃ b, rb = some b := by cases rb with | none => exact hrb.elim | some b => exact ⟨b, rfl⟩
    obtain ⟨z, hz⟩ := hrb
    simp only at hq
    split at hq <;> try (cases hq; done)
    rename_i h1 dn df hm
    split at hm <;> cases hm
    rename_i q hgq
    split at hq <;> try (cases hq; done)
    rename_i h2 ha2
    have hs0 : Sim C K (s.h.bump 2) w := hs.bump 2
    obtain ⟨b', n', O, i1, i2, i3, ⟨fn0, tmps0, as0, bd0, dnb0, z0, rfl, i5, i6, i7, i8, i9, i10, i11⟩, i12⟩ := hs0.live _ _ hgq
    rw [hz] at i1; cases i1
    obtain ⟨K2, hle2, hl2, hs2⟩ := loop_new hC hs0 hf hps has hbd hfn' i11 ha2
    exact main h2 K2 _ w.heap.size q.dn dnb0 [] s.df hle2 hl2 hs2 (hf.df.mono hle2) hq (run_enterLoop_inner i3 _ _ _ _ _)

theorem code_sound (hR : RSound P pg n R) : ∀ (code : Code) (cd : Cd) (c : Cfg), c.pg = pg → Cd.of P c.N code = some cd → ∀ (s : St) (x : Ex) (s' : St), cd.ev c R s = some (x, s') → ∀ (C : Cx) (K : Ctx) (a : Act) (w : World) (rb : Option Nat) (m : Nat) (QQ : Exit → Act → World → Prop),
    IsC P pg C → RndOk K c.r rb → Sim C K s.h w → Fd K c.N s a → Post C K c.N x s' QQ → code.wpIn (Fe P rb) m P QQ a w := by
  intro code
  induction code with
  | skip =>
    intro cd c hc h s x s' hq C K a w rb m QQ hC hrb hs hf hp
    cases h
    simp only [Cd.ev, Option.some.injEq, Prod.mk.injEq] at hq
    obtain ⟨rfl, rfl⟩ := hq
    exact wpIn_skip (hp K a w .normal (.refl K) hs hf .normal)
  | label l =>
    intro cd c hc h s x s' hq C K a w rb m QQ hC hrb hs hf hp
    cases h
    simp only [Cd.ev, Option.some.injEq, Prod.mk.injEq] at hq
    obtain ⟨rfl, rfl⟩ := hq
    exact wpIn_label (hp K a w .normal (.refl K) hs hf .normal)
  | region id ops draw =>
    intro cd c hc h s x s' hq C K a w rb m QQ hC hrb hs hf hp
    cases draw with
    | true =>
      simp only [Cd.of, Option.bind_eq_some_iff] at h
      obtain ⟨gs, hgs, h⟩ := h
      split at h
      · rename_i hok
        cases h
        exact draw_sound hR hc hgs (drawOf_g _ _ _ _) hok hC hq hrb hs hf hp
      · split at h <;> cases h
        rename_i hok
        exact draw_sound hR hc hgs (drawOf_g _ _ _ _) hok hC hq hrb hs hf hp
    | false =>
      simp only [Cd.of, Option.map_eq_some_iff] at h
      obtain ⟨gs, hgs, rfl⟩ := h
      simp only [Cd.ev] at hq
      exact wpIn_region_list (gs_sound hR hc hC _ gs hgs _ x s' K a w hq hrb (hs.bump _) (hf.env _) hp)
  | seq u v ihu ihv =>
    intro cd c hc h s x s' hq C K a w rb m QQ hC hrb hs hf hp
    simp only [Cd.of, Option.bind_eq_some_iff, Option.some.injEq] at h
    obtain ⟨cu, hu, cv, hv, rfl⟩ := h
    simp only [Cd.ev] at hq
    refine wpIn_seq ?_
    cases hu1 : cu.ev c R s with
    | none => rw [hu1] at hq; cases hq
    | some r =>
      obtain ⟨x1, s1⟩ := r
      rw [hu1] at hq
      refine ihu cu c hc hu s x1 s1 hu1 C K a w rb m _ hC hrb hs hf fun K' a' w' ex h1 h2 h3 h4 => ?_
      cases x1 with
      | normal =>
        cases h4
        exact ihv cv c hc hv s1 x s' hq C K' a' w' rb m QQ hC (hrb.mono h1) h2 h3 (hp.mono h1)
      | exit id => cases hq; cases h4; exact hp K' a' w' _ h1 h2 h3 (.exit id)
      | ret => cases hq; cases h4; exact hp K' a' w' _ h1 h2 h3 .ret
      | pan d => cases hq; cases h4 with | pan _ v hv => exact hp K' a' w' _ h1 h2 h3 (.pan d v hv)
  | cond g u v ihu ihv =>
    intro cd c hc h s x s' hq C K a w rb m QQ hC hrb hs hf hp
    simp only [Cd.of, Option.bind_eq_some_iff, Option.some.injEq] at h
    obtain ⟨xg, hg, cu, hu, cv, hv, rfl⟩ := h
    have hdg := hf.fr.rd hs hg
    rw [hC.hpg] at hdg
    simp only [Cd.ev, hc] at hq
    split at hq <;> try (cases hq; done)
    · rename_i hb
      rw [hb] at hdg
      exact wpIn_cond_true hdg.val_eq (ihu cu c hc hu s x s' hq C K a w rb m QQ hC hrb hs hf hp)
    · rename_i hb
      rw [hb] at hdg
      exact wpIn_cond_false hdg.val_eq (ihv cv c hc hv s x s' hq C K a w rb m QQ hC hrb hs hf hp)
  | block id u ih =>
    intro cd c hc h s x s' hq C K a w rb m QQ hC hrb hs hf hp
    simp only [Cd.of, Option.map_eq_some_iff] at h
    obtain ⟨cu, hu, rfl⟩ := h
    simp only [Cd.ev] at hq
    refine wpIn_block ?_
    cases hu1 : cu.ev c R s with
    | none => rw [hu1] at hq; cases hq
    | some r =>
      obtain ⟨x1, s1⟩ := r
      rw [hu1] at hq
      refine ih cu c hc hu s x1 s1 hu1 C K a w rb m _ hC hrb hs hf fun K' a' w' ex h1 h2 h3 h4 => ?_
      cases x1 with
      | normal => cases hq; cases h4; exact hp K' a' w' _ h1 h2 h3 .normal
      | exit i =>
        cases h4
        simp only [Exit.inBlock]
        simp only at hq
        by_cases hi : i = id
        · rw [if_pos hi] at hq ⊢; cases hq; exact hp K' a' w' _ h1 h2 h3 .normal
        · rw [if_neg hi] at hq ⊢; cases hq; exact hp K' a' w' _ h1 h2 h3 (.exit i)
      | ret => cases hq; cases h4; exact hp K' a' w' _ h1 h2 h3 .ret
      | pan d => cases hq; cases h4 with | pan _ v hv => exact hp K' a' w' _ h1 h2 h3 (.pan d v hv)
  | loop u ih =>
    intro cd c hc h s x s' hq C K a w rb m QQ hC hrb hs hf hp
    simp only [Cd.of, Option.map_eq_some_iff] at h
    obtain ⟨cu, hu, rfl⟩ := h
    simp only [Cd.ev] at hq
    exact wpIn_loop_rounds _ (hR.lp c cu s x s' hq u hc hu C K a w rb m QQ hC hrb hs hf hp)
  | scope u ih =>
    intro cd c hc h s x s' hq C K a w rb m QQ hC hrb hs hf hp
    simp only [Cd.of, Option.map_eq_some_iff] at h
    obtain ⟨cu, hu, rfl⟩ := h
    simp only [Cd.ev] at hq
    refine wpIn_scope ?_
    refine ih cu c hc hu s x s' hq C K a w rb m _ hC hrb hs hf fun K' a' w' ex h1 h2 h3 h4 => ?_
    have hq' := hp K' a' w' ex h1 h2 h3 h4
    cases h4 with
    | normal => exact hq'
    | exit i => exact hq'
    | ret => exact hq'
    | pan d v hv => exact hq'
  | exit id =>
    intro cd c hc h s x s' hq C K a w rb m QQ hC hrb hs hf hp
    cases h
    simp only [Cd.ev, Option.some.injEq, Prod.mk.injEq] at hq
    obtain ⟨rfl, rfl⟩ := hq
    exact wpIn_exit (hp K a w _ (.refl K) hs hf (.exit id))
  | ret =>
    intro cd c hc h s x s' hq C K a w rb m QQ hC hrb hs hf hp
    cases h
    simp only [Cd.ev, Option.some.injEq, Prod.mk.injEq] at hq
    obtain ⟨rfl, rfl⟩ := hq
    exact wpIn_ret (hp K a w _ (.refl K) hs hf .ret)
  | rangeFunc g ps u v ihu ihv =>
    intro cd c hc h s x s' hq C K a w rb m QQ hC hrb hs hf hp
    simp only [Cd.of, Option.bind_eq_some_iff] at h
    obtain ⟨xg, hg, cu, hu, cv, hv, h⟩ := h
    split at h <;> cases h
    rename_i hps
    exact range_sound hR hc hg hu hv (fun p hp => by simpa using List.all_eq_true.1 hps p hp) hq hC hrb hs hf hp
  | _ => intro cd c hc h; simp [Cd.of] at h
end
end Go.Em
/- Functions do what the evaluator says. -/
namespace Go.Em
open Go Go.RowKit

def rsOf (P : Program) : List ResultVar → Option (List (ResultVar × Bool × Nat))
  | [] => some []
  | .tmp t :: l => (rsOf P l).map fun rs => (.tmp t, false, 0) :: rs
  | .cell t ty :: l => (shapeOf P ty).bind fun q => (rsOf P l).map fun rs => (.cell t ty, q) :: rs
def codeOf (P : Program) (f : FuncId) : Option (Nat × List (ResultVar × Bool × Nat) × Cd) :=
  (P.funcs[f]?).bind fun fn => if fn.name = "runtime.NumGoroutine" then none else fn.body.bind fun c => (Cd.of P fn.ntmps c).bind fun m => (rsOf P fn.results.toList).map fun rs => (fn.ntmps, rs, m)
def PgOk (P : Program) (pg : Pg) : Prop := ∀ f fc, pg.code f = some fc → codeOf P f = some (fc.N, fc.rs, fc.code)

theorem PgOk.fn {P : Program} {pg : Pg} (h : PgOk P pg) {f : FuncId} {fc : FnCode} (hf : pg.code f = some fc) :
    ∃ fn c, P.funcs[f]? = some fn ∧ fn.body = some c ∧ FnIs P f ∧ fn.ntmps = fc.N ∧ Cd.of P fc.N c = some fc.code ∧ rsOf P fn.results.toList = some fc.rs := by
  have := h f fc hf
  simp only [codeOf, Option.bind_eq_some_iff] at this
  obtain ⟨fn, h1, this⟩ := this
  split at this
  · cases this
  · rename_i hn
    simp only [Option.bind_eq_some_iff, Option.map_eq_some_iff, Prod.mk.injEq] at this
    obtain ⟨c, h2, m, h3, rs, h4, h5, h6, h7⟩ := this
    subst h6 h7
    exact ⟨fn, c, h1, h2, ⟨fn, h1, by rw [h2]; simp, hn⟩, h5, by rw [← h5]; exact h3, h4⟩

def getRes (a : Act) : ResultVar → Sem Value
  | .tmp t => pure (a.tmps.getD t undef)
  | .cell c t => do loadVar t (← asAddr (a.tmps.getD c undef))

theorem Fr.any {K : Ctx} {N : Nat} {e : List D} {a : Act} (f : Fr K N e a) (t : Nat) : Den K (a.tmps.getD t undef) (e.getD t .junk) := by
  by_cases h : t < N
  · exact f.slots t h
  · have : e.getD t .junk = .junk := by
      rw [List.getD_eq_getElem?_getD, List.getElem?_eq_none (by rw [f.len]; omega)]; rfl
    rw [this]; exact .junk _

section
variable {P : Program} {C : Cx} {K : Ctx} {h : Heap} {w : World} {N : Nat} {e : List D} {a : Act}

theorem run_resL (s : Sim C K h w) (f : Fr K N e a) : ∀ (l : List ResultVar) (rs : List (ResultVar × Bool × Nat)) (ds : List D), rsOf P l = some rs → resL h e rs = some ds → ∃ vs, (l.mapM (getRes a)).run P w = .ok vs w ∧ DenL K vs ds
  | [], rs, ds, hr, hd => by
    simp only [rsOf, Option.some.injEq] at hr
    subst hr
    simp only [resL, Option.some.injEq] at hd
    subst hd
    exact ⟨[], rfl, .nil⟩
  | r :: l, rs, ds, hr, hd => by
    have key : ∃ q rs', rsOf P l = some rs' ∧ rs = (r, q) :: rs' ∧ (∀ t ty, r = .cell t ty → shapeOf P ty = some q) := by
      cases r with
      | tmp t =>
        simp only [rsOf, Option.map_eq_some_iff] at hr
        obtain ⟨rs', h1, rfl⟩ := hr
        exact ⟨_, rs', h1, rfl, fun t ty x => by cases x⟩
      | cell t ty =>
        simp only [rsOf, Option.bind_eq_some_iff, Option.map_eq_some_iff] at hr
        obtain ⟨q, h1, rs', h2, rfl⟩ := hr
        exact ⟨q, rs', h2, rfl, fun t ty x => by cases x; exact h1⟩
    obtain ⟨q, rs', h1, rfl, h2⟩ := key
    simp only [resL] at hd
    split at hd <;> cases hd
    rename_i d ds' hd1 hd2
    obtain ⟨vs, hvs, hdvs⟩ := run_resL s f l rs' ds' h1 hd2
    have one : ∃ v, (getRes a r).run P w = .ok v w ∧ Den K v d := by
      cases r with
      | tmp t =>
        simp only [resD, Option.some.injEq] at hd1
        subst hd1
        exact ⟨_, rfl, f.any t⟩
      | cell t ty =>
        obtain ⟨ag, m⟩ := q
        have hsh := h2 t ty rfl
        have hsl := f.any t
        simp only [resD] at hd1
        split at hd1 <;> try (cases hd1; done)
        rename_i k o hk
        split at hd1 <;> try (cases hd1; done)
        rename_i ty' cs hg
        split at hd1 <;> cases hd1
        rename_i hle
        rw [hk] at hsl
        obtain ⟨b, n, hl, hv⟩ := hsl.ptr_inv
        obtain ⟨_, us, vs, g1, g2, g3, g4⟩ := s.block hg hl
        obtain ⟨u, hu, hdu⟩ := run_ld (P := P) (w := w) (b := b) (o := o) hsh (g2.drop o) (by rw [List.length_drop]; omega) (fun i v hi => by
          rw [List.getElem?_drop] at hi; exact cell_of_block g1 hi)
        refine ⟨u, by simp [getRes, hv, asAddr, hu], ?_⟩
        cases ag
        · simpa [List.getD] using hdu
        · simpa using hdu
    obtain ⟨v, hv, hdv⟩ := one
    refine ⟨v :: vs, ?_, .cons _ _ _ _ hdv hdvs⟩
    rw [List.mapM_cons, Sem.run_bind, hv, Result.andThen_ok, Sem.run_bind, hvs, Result.andThen_ok]
    rfl

theorem run_results (s : Sim C K h w) (f : Fr K N e a) {fn : Func} {rs : List (ResultVar × Bool × Nat)} {ds : List D} (hr : rsOf P fn.results.toList = some rs) (hd : resL h e rs = some ds) : ∃ v, (results fn a.tmps).run P w = .ok v w ∧ Den K v (packD ds) := by
  obtain ⟨vs, hvs, hden⟩ := run_resL (P := P) s f _ _ _ hr hd
  have hl := hden.length
  have hres : results fn a.tmps = (fn.results.mapM (getRes a) >>= fun vs => pure (if h : vs.size = 1 then vs[0] else .tuple vs)) := rfl
  rw [hres, Array.mapM_eq_mapM_toList]
  simp only [Sem.run_bind, Sem.run_map]
  rw [hvs]
  simp only [Result.andThen_ok, Sem.run_pure]
  match vs, ds, hden, hl with
  | [], [], _, _ => exact ⟨_, rfl, by simpa [packD] using Den.tup [] [] .nil⟩
  | [v], [d], .cons _ _ _ _ k _, _ => exact ⟨_, rfl, by simpa [packD] using k⟩
  | v :: v' :: vs, d :: d' :: ds, hden, _ => exact ⟨_, rfl, by simpa [packD] using Den.tup _ _ hden⟩

theorem Sim.gone (s : Sim C K h w) {w' : World} {k : Nat} {B0 : Blk} (hk : h.get k = some B0) {b n : Nat} (hl : K.loc k = some (b, n)) (hw : w.grownBy w' (some b)) : Sim C K (h.set k none) w' := by
  obtain ⟨b', n', O', i1, i2, i3, i4, i5⟩ := s.live k B0 hk
  rw [hl] at i1; cases i1
  have hbel : Below C.w0.heap.size w w' := ⟨hw.os, hw.tape, hw.output, hw.size, fun j hj => hw.block j (Nat.lt_of_lt_of_le hj s.below.size) (fun e => by cases e; omega)⟩
  have get : ∀ j B1, (h.set k none).get j = some B1 → j ≠ k ∧ h.get j = some B1 := fun j B1 x => by
    by_cases hj : j = k
    · subst hj; have x := Heap.get_set_sm x; cases x
    · rw [Heap.get_set_ne _ _ hj] at x; exact ⟨hj, x⟩
  refine s.step b (.refl K) rfl rfl hbel (fun j hj hne => hw.block j hj (fun e => hne (Option.some.inj e))) i5 i2 (fun j B' x => ?_) (fun j j' B1 B2 n1 n2 x x' y y' => ?_) (fun j x => ?_) (fun _ _ => Heap.fzd_of_set) (fun j cs x => ?_)
  · obtain ⟨h1, h2⟩ := get j B' x
    obtain ⟨b2, m, _, j1, _⟩ := s.live j B' h2
    exact .inl ⟨h2, b2, m, j1, fun e => by subst e; exact h1 (s.inj j k B' B0 b2 m n h2 hk j1 hl)⟩
  · obtain ⟨h1, h2⟩ := get j B1 x
    exact absurd (s.inj j k B1 B0 b n1 n h2 hk y hl) h1
  · by_cases hj : j = k
    · subst hj; rw [Heap.raw_set_same] at x; cases x
    · rw [Heap.raw_set_ne _ _ hj] at x; exact s.fresh j x
  · obtain ⟨x1, x2, _⟩ := Heap.vget_of_set rfl x
    exact ⟨x2, s.vw_ne x2 hk hl, fun B1 r => by rw [Heap.raw_set_ne _ _ x1]; exact r⟩

theorem start_fd {fc : FnCode} {args : List D} {vs : List Value} (hd : DenL K vs args) (hl : args.length ≤ fc.N) (h : Heap) : Fd K fc.N (fc.start args h) { tmps := vs.toArray ++ Array.replicate (fc.N - vs.length) undef, defers := [] } := by
  have hlen := hd.length
  refine ⟨⟨by simp; omega, by simp [FnCode.start]; omega, fun t ht => ?_⟩, .nil⟩
  simp only [FnCode.start, List.getD_eq_getElem?_getD, Array.getD_eq_getD_getElem?]
  by_cases hlt : t < args.length
  · have hlt' : t < vs.length := by omega
    rw [List.getElem?_append_left hlt, Array.getElem?_append_left (by simpa using hlt')]
    obtain ⟨v, hv, hdv⟩ := hd.get (List.getElem?_eq_getElem hlt)
    simp only [List.getElem?_toArray, hv, List.getElem?_eq_getElem hlt, Option.getD_some]
    exact hdv
  · rw [List.getElem?_append_right (by omega)]
    have : (List.replicate (fc.N - args.length) D.junk)[t - args.length]?.getD .junk = .junk := by
      rw [List.getElem?_replicate]; split <;> rfl
    rw [this]; exact .junk _
end

section
variable {P : Program} {pg : Pg} {n : Nat} {R : Rc}

theorem URel.run {K : Ctx} {p : Option D} {u : FrameMode} (h : URel K p u) : u ≠ .run := by cases h <;> simp

theorem leave_sound (hR : RSound P pg n R) {m : Nat} {fn : Func} {tmps : Array Value} {RR : Ending → World → Prop} {C : Cx} (hC : IsC P pg C) : ∀ (df : List Df) (p : Option D) (h : Heap) (p' : Option D) (h' : Heap), leave R df p h = some (p', h') →
    ∀ (K : Ctx) (w : World) (ds : List Deferred) (u : FrameMode), Sim C K h w → DfRel K df ds → URel K p u → (∀ (K' : Ctx) (w' : World) (u' : FrameMode), K.le K' → Sim C K' h' w' → URel K' p' u' → LeavesInM (Fe P none) m P fn tmps RR [] u' w') →
    LeavesInM (Fe P none) m P fn tmps RR ds u w
  | [], p, h, p', h', hl, K, w, ds, u, hs, hdf, hu, k => by
    simp only [leave, Option.some.injEq, Prod.mk.injEq] at hl
    obtain ⟨rfl, rfl⟩ := hl
    cases hdf
    exact k K w u (.refl K) hs hu
  | .mark j :: l, p, h, p', h', hl, K, w, ds, u, hs, hdf, hu, k => by
    simp only [leave] at hl
    split at hl <;> try (cases hl; done)
    rename_i hj
    cases hdf with
    | mark _ b z _ ds hb hdf =>
      obtain ⟨b', n', O, i1, i2, i3, i4, i5⟩ := hs.live _ _ hj
      rw [hb] at i1; cases i1
      have i4' : O = .deferred (some []) := i4
      subst i4'
      refine ⟨hu.run, .inl ⟨b, w.putObj b (.deferred none), rfl, run_takeDeferred i3, ?_⟩⟩
      exact leave_sound hR hC l p _ p' h' hl K _ ds u (hs.gone hj hb (putObj_grown _)) hdf hu k
  | .call f args :: l, p, h, p', h', hl, K, w, ds, u, hs, hdf, hu, k => by
    cases hdf with
    | call f us vs ws fs _ caps _ ds hus hvs hws hdf =>
      simp only [leave] at hl
      split at hl <;> try (cases hl; done)
      rename_i p1 h1 hd
      obtain ⟨hfi, hcs⟩ := hR.df _ _ _ _ _ _ hd
      refine ⟨hu.run, .inr ⟨fun h => by simp [Fe] at h, .func f, ws.toArray, f, ((us ++ vs) ++ ws).toArray, rfl, ?_, fun g hg => ?_, ?_⟩⟩
      · have e1 : us.toArray ++ vs.toArray ++ ws.toArray = ((us ++ vs) ++ ws).toArray := by apply Array.ext'; simp
        simp only [invoke, e1]
        exact fn_run hfi _ w
      · simp only [Target.leads, Option.some.injEq] at hg
        rw [← hg]; exact fn_some hfi
      · refine CallsDIn.mono (hcs C K w _ u (m - 1) hC hs ((hus.append hvs).append hws) hu) ?_
        rintro e u' w' ⟨v, K', rfl, j1, j2, j3⟩
        exact leave_sound hR hC l p1 h1 p' h' hl K' w' ds (settle u') j2 (hdf.mono j1) j3 fun K2 w2 u2 q1 q2 q3 => k K2 w2 u2 (j1.trans q1) q2 q3

theorem fn_sound (hP : PgOk P pg) (hR : RSound P pg n R) : FnS P pg (fnBody pg R) := by
  refine ⟨fun f args h out h' hq => ?_⟩
  unfold fnBody at hq
  split at hq <;> try (cases hq; done)
  rename_i fc hfc
  split at hq <;> try (cases hq; done)
  rename_i hlen
  obtain ⟨fn, cc, h1, h2, h3, h4, h5, h6⟩ := hP.fn hfc
  refine ⟨h3, fun C K w vs m hC hs hd => ?_⟩
  refine callsIn_of_wp_marks h1 h2 (by show (P.funcs[f]?).isSome = true; rw [h1]; rfl) ?_
  rw [h4, show vs.toArray.size = vs.length by simp]
  have hfd := start_fd (fc := fc) hd hlen h
  -- what follows behind the body
  have fin : ∀ (p : Option D) (s1 : St), finish R fc.rs p s1 = some (out, h') → ∀ (K1 : Ctx) (a1 : Act) (w1 : World) (u : FrameMode), K.le K1 → Sim C K1 s1.h w1 → Fd K1 fc.N s1 a1 → URel K1 p u →
      LeavesInM (Fe P none) m P fn a1.tmps (fun e w' => ∃ K', K.le K' ∧ Sim C K' h' w' ∧ OutRel K' out e) a1.defers u w1 := by
    intro p s1 hfin K1 a1 w1 u hle hs1 hf1 hu
    unfold finish at hfin
    split at hfin <;> try (cases hfin; done)
    · rename_i h2' hl
      simp only [Option.map_eq_some_iff, Prod.mk.injEq] at hfin
      obtain ⟨ds, hres, rfl, rfl⟩ := hfin
      refine leave_sound hR hC _ _ _ _ _ hl K1 w1 _ u hs1 hf1.df hu fun K2 w2 u2 q1 q2 q3 => ?_
      cases q3
      obtain ⟨v, hv, hdv⟩ := run_results (P := P) q2 (hf1.fr.mono q1) h6 hres
      exact ⟨v, hv, K2, hle.trans q1, q2, .ret _ _ hdv⟩
    · rename_i d h2' hl
      simp only [Option.some.injEq, Prod.mk.injEq] at hfin
      obtain ⟨rfl, rfl⟩ := hfin
      refine leave_sound hR hC _ _ _ _ _ hl K1 w1 _ u hs1 hf1.df hu fun K2 w2 u2 q1 q2 q3 => ?_
      cases q3 with
      | some _ v hv => exact ⟨K2, hle.trans q1, q2, .pan _ _ hv⟩
  split at hq <;> try (cases hq; done)
  · rename_i s1 hev
    exact code_sound hR cc fc.code ⟨pg, fc.N, none⟩ rfl h5 _ _ _ hev C K _ w none m _ hC trivial hs hfd fun K1 a1 w1 ex q1 q2 q3 q4 => by
      cases q4; exact fin none s1 hq K1 a1 w1 .returning q1 q2 q3 .none
  · rename_i s1 hev
    exact code_sound hR cc fc.code ⟨pg, fc.N, none⟩ rfl h5 _ _ _ hev C K _ w none m _ hC trivial hs hfd fun K1 a1 w1 ex q1 q2 q3 q4 => by
      cases q4; exact fin none s1 hq K1 a1 w1 .returning q1 q2 q3 .none
  · rename_i d s1 hev
    exact code_sound hR cc fc.code ⟨pg, fc.N, none⟩ rfl h5 _ _ _ hev C K _ w none m _ hC trivial hs hfd fun K1 a1 w1 ex q1 q2 q3 q4 => by
      cases q4 with | pan _ v hv => exact fin (some d) s1 hq K1 a1 w1 _ q1 q2 q3 (.some _ _ hv)

theorem lp_sound (hR : RSound P pg n R) (c : Cfg) (cd : Cd) (s : St) (x : Ex) (s' : St) (hq : lpBody R c cd s = some (x, s')) (code : Code) (hc : c.pg = pg) (hcd : Cd.of P c.N code = some cd) (C : Cx) (K : Ctx) (a : Act) (w : World) (rb : Option Nat) (m : Nat) (QQ : Exit → Act → World → Prop)
    (hC : IsC P pg C) (hrb : RndOk K c.r rb) (hs : Sim C K s.h w) (hf : Fd K c.N s a) (hp : Post C K c.N x s' QQ) : Code.roundsIn (Fe P rb) m P code QQ (n + 1) a w := by
  unfold lpBody at hq
  rw [roundsIn_succ]
  cases hu1 : cd.ev c R s with
  | none => rw [hu1] at hq; cases hq
  | some r =>
    obtain ⟨x1, s1⟩ := r
    rw [hu1] at hq
    refine code_sound hR code cd c hc hcd s x1 s1 hu1 C K a w rb m _ hC hrb hs hf fun K' a' w' ex h1 h2 h3 h4 => ?_
    cases x1 with
    | normal =>
      cases h4
      exact hR.lp c cd s1 x s' hq code hc hcd C K' a' w' rb m QQ hC (hrb.mono h1) h2 h3 (hp.mono h1)
    | exit id => cases hq; cases h4; exact hp K' a' w' _ h1 h2 h3 (.exit id)
    | ret => cases hq; cases h4; exact hp K' a' w' _ h1 h2 h3 .ret
    | pan d => cases hq; cases h4 with | pan _ v hv => exact hp K' a' w' _ h1 h2 h3 (.pan d v hv)
end
end Go.Em
/- A round of a loop over a function. -/
namespace Go.Em
open Go Go.RowKit

def rndPost (P : Program) (l : Nat) (R : Ending → World → Prop) : Exit → Act → World → Prop
  | .panic ch, a, w => a.defers = [] ∧ R (.panicked ch) w
  | x, a, w => roundPost P l R x a w

theorem round_of_wp {F : Fence} {n : Nat} {P : Program} {l : Nat} {f : FuncId} {tmps : Array Value} {assign body : Code} {w : World} {R : Ending → World → Prop} (hF : F.fn f) (hf : (P.funcs[f]?).isSome = true)
    (h : assign.wpIn (F.inRound l) n P (Exit.then (fun a₁ w₁ => ∃ w₂, (Instr.beginRound l).run P w₁ = .ok () w₂ ∧ body.wpIn (F.inRound l) n P (rndPost P l R) a₁ w₂) (fun _ _ _ => False))
      { tmps := tmps, defers := [] } w) :
    RoundIn F n P l f tmps assign body w R := by
  refine ⟨hF, fun c cs hr => ?_⟩
  let b : Frame := { (default : Frame) with fn := f, kind := .normal, roundOf := some l }
  have hb0 : Frame.round l f tmps assign body .normal = b.atR { tmps := tmps, defers := [] } [.code assign, .beginRound, .code body] := by
    simp [Frame.round, Frame.atR, b]
  have hr' : (F.inRound l).room ((c :: cs).length + 1 + n) := hr
  have hF' : (F.inRound l).fn b.fn := hF
  obtain ⟨e, a₁, w₁, hq, harr⟩ := h b [.beginRound, .code body] (c :: cs) rfl hF' hr'
  rw [← hb0] at harr
  cases e with
  | normal =>
    obtain ⟨w₂, hbr, hbody⟩ := hq
    have s1 : StepsIn (Machine.fenced P (F.inRound l)) P (lone (b.atR a₁ [.beginRound, .code body]) (c :: cs) w₁) (lone (b.atR a₁ [.code body]) (c :: cs) w₂) :=
      .one (fenced_calm (fr := b.atR a₁ [.beginRound, .code body]) hF' hr' rfl) (stepR_beginRound rfl hbr)
    obtain ⟨e₂, a₂, w₃, hq₂, harr₂⟩ := hbody b [] (c :: cs) rfl hF' hr'
    cases e₂ with
    | normal =>
      obtain ⟨v, w₄, hend, hR⟩ := hq₂
      exact ⟨.returned v, w₄, hR, (StepsIn.trans harr s1).trans (StepsIn.trans harr₂ (.one (fenced_calm (fr := b.atR a₂ []) hF' hr' rfl) (stepR_round_end rfl rfl hend)))⟩
    | ret =>
      obtain ⟨v, w₄, hend, hR⟩ := hq₂
      obtain ⟨k₁, hs⟩ := harr₂.2 rfl
      exact ⟨.returned v, w₄, hR, (StepsIn.trans harr s1).trans (StepsIn.trans hs (.one (fenced_calm (fr := b.atR a₂ (.code .ret :: k₁)) hF' hr' rfl) (stepR_round_ret rfl rfl hend)))⟩
    | exit id =>
      obtain ⟨v, w₄, hend, hR⟩ := hq₂
      obtain ⟨k₁, hk, hs⟩ := harr₂.2 rfl rfl
      exact ⟨.returned v, w₄, hR, (StepsIn.trans harr s1).trans (StepsIn.trans hs (.one (fenced_calm (fr := b.atR a₂ (.code (.exit id) :: k₁)) hF' hr' rfl) (stepR_round_exit rfl rfl hk hend)))⟩
    | goto t =>
      obtain ⟨v, w₄, hend, hR⟩ := hq₂
      obtain ⟨k₁, hk, hs⟩ := harr₂.2 rfl rfl
      exact ⟨.returned v, w₄, hR, (StepsIn.trans harr s1).trans (StepsIn.trans hs (.one (fenced_calm (fr := b.atR a₂ (.code (.goto t) :: k₁)) hF' hr' rfl) (stepR_round_goto rfl rfl hk hend)))⟩
    | panic chain =>
      obtain ⟨hd, hR⟩ := hq₂
      obtain ⟨todo, hs⟩ := harr₂
      obtain ⟨fn, hfn⟩ := Option.isSome_iff_exists.1 hf
      have hleave : ({ b.atR a₂ todo with mode := .panicking chain } : Frame).leaving P w₃ (.panicked chain) := ⟨rfl, hd, fn, hfn⟩
      have hl : (lone { b.atR a₂ todo with mode := .panicking chain } (c :: cs) w₃).fenced P (F.inRound l) := fenced_leaving (n := n) hF' hr' hleave
      exact ⟨.panicked chain, w₃, hR, (StepsIn.trans harr s1).trans (StepsIn.trans hs (.one hl (step_leave_panicked hleave)))⟩
    | outgrown => exact hq₂.elim
  | exit id => exact hq.elim
  | goto t => exact hq.elim
  | ret => exact hq.elim
  | panic chain => exact hq.elim
  | outgrown => exact hq.elim

theorem foldl_zip (ps : Array Tmp) (vs : List Value) (t : Array Value) : (ps.zip vs.toArray).foldl (fun tmps p => tmps.setIfInBounds p.1 p.2) t = (ps.toList.zip vs).foldl (fun tmps p => tmps.setIfInBounds p.1 p.2) t := by
  rw [← Array.foldl_toList, Array.toList_zip]

theorem params_fr {K : Ctx} {N : Nat} : ∀ (ps : List Tmp) (vs : List Value) (ds : List D) (e : List D) (t : Array Value), DenL K vs ds → Fr K N e { tmps := t, defers := [] } →
    Fr K N ((ps.zip ds).foldl (fun e p => e.set p.1 p.2) e) { tmps := (ps.zip vs).foldl (fun tmps p => tmps.setIfInBounds p.1 p.2) t, defers := [] }
  | [], vs, ds, e, t, hd, hf => hf
  | p :: ps, [], [], e, t, hd, hf => hf
  | p :: ps, v :: vs, d :: ds, e, t, .cons _ _ _ _ h1 h2, hf => by
    simp only [List.zip_cons_cons, List.foldl_cons]
    refine params_fr ps vs ds _ _ h2 ?_
    exact hf.put (some p) h1

theorem DfRel.nil_inv {K : Ctx} {df : List Df} {ds : List Deferred} (h : DfRel K df ds) (he : df.isEmpty = true) : ds = [] := by
  cases h with
  | nil => rfl
  | mark => simp at he
  | call => simp at he

section
variable {P : Program} {pg : Pg} {n : Nat} {R : Rc}

theorem yl_sound (hR : RSound P pg n R) (k : Nat) (args : List D) (h : Heap) (out : Out) (h' : Heap) (hq : yieldEv pg R k args h = some (out, h')) (C : Cx) (K : Ctx) (w : World) (vs : List Value) (b z : Nat) (hC : IsC P pg C) (hs : Sim C K h w) (hb : K.loc k = some (b, z)) (hd : DenL K vs args) :
    ∃ fn tmps as bd, (Instr.yield b vs.toArray).run P w = .ok (.round b fn tmps as bd) w ∧ ∀ m, RoundIn (Fe P none) m P b fn tmps as bd w fun e w' => ∃ K', K.le K' ∧ Sim C K' h' w' ∧ OutRel K' out e := by
  unfold yieldEv at hq
  split at hq <;> try (cases hq; done)
  rename_i q hk
  split at hq <;> try (cases hq; done)
  rename_i hcond
  obtain ⟨hlen, hready⟩ := hcond
  obtain ⟨b', n', O, i1, i2, i3, ⟨fn, tmps, as, bd, dnb, z0, rfl, g1, g2, g3, g4, g5, g6, g7⟩, i5⟩ := hs.live _ _ hk
  rw [hb] at i1; cases i1
  rw [hC.hofc] at g1 g2 g3
  have hvl : vs.toArray.size = q.ps.toArray.size := by simp [hd.length, hlen]
  refine ⟨fn, _, as, bd, run_yield i3 hvl, fun m => round_of_wp g1 g1 ?_⟩
  have hfz : (q.ps.toArray.zip vs.toArray).foldl (fun tmps (t, a) => tmps.setIfInBounds t a) tmps = (q.ps.zip vs).foldl (fun tmps p => tmps.setIfInBounds p.1 p.2) tmps := foldl_zip q.ps.toArray vs tmps
  rw [hfz]
  split at hq <;> try (cases hq; done)
  rename_i s1 hev1
  have hfr0 : Fr K q.e.length q.e { tmps := tmps, defers := [] } := ⟨g4, rfl, g5⟩
  have hf0 : Fd K q.e.length { e := (q.ps.zip args).foldl (fun e p => e.set p.1 p.2) q.e, h, df := [] } { tmps := (q.ps.zip vs).foldl (fun tmps p => tmps.setIfInBounds p.1 p.2) tmps, defers := [] } := ⟨params_fr _ _ _ _ _ hd hfr0, .nil⟩
  refine code_sound hR as q.as ⟨pg, q.e.length, some k⟩ rfl g2 _ _ _ hev1 C K _ w (some b) m _ hC ⟨_, hb⟩ hs hf0 fun K1 a1 w1 ex l1 s1' f1 x1 => ?_
  cases x1
  split at hq <;> try (cases hq; done)
  rename_i q1 hk1
  split at hq <;> try (cases hq; done)
  rename_i hcond1
  obtain ⟨hready1, hdf1⟩ := hcond1
  have hb1 := l1.loc _ _ hb
  obtain ⟨b', n', O, i1, i2, i3, ⟨fn1, tmps1, as1, bd1, dnb1, z1, rfl, e1, e2, e3, e4, e5, e6, e7⟩, i5⟩ := s1'.live _ _ hk1
  rw [hb1] at i1; cases i1
  refine ⟨_, run_beginRound i3 hready1, ?_⟩
  have hlt : b < w1.heap.size := (Array.getElem?_eq_some_iff.1 i3).1
  have s2 := s1'.turn (B := .loop { q1 with st := .busy }) hk1 hb1 (putObj_grown (w := w1) (b := b) (.loop { state := .busy, pending := q1.pe.code, fn := fn1, tmps := tmps1, params := q1.ps.toArray, assign := as1, body := bd1, defers := dnb1 })) (World.putObj_heap_same hlt)
    (show BlkRel C.ofc _ _ _ (.loop _) from ⟨fn1, tmps1, as1, bd1, dnb1, z1, rfl, e1, e2, e3, e4, e5, e6, e7⟩)
  split at hq <;> try (cases hq; done)
  rename_i x s3 hev2
  have ha1 : a1.defers = [] := f1.df.nil_inv hdf1
  refine code_sound hR bd q.bd ⟨pg, q.e.length, some k⟩ rfl g3 _ _ _ hev2 C K1 _ _ (some b) m _ hC ⟨_, hb1⟩ s2 (f1.env _) fun K3 a3 w3 ex l3 s3' f3 x3 => ?_
  have nil3 : s3.df.isEmpty = true → a3.defers = [] := fun he => f3.df.nil_inv he
  have hb3 := l3.loc _ _ hb1
  have fin : ∀ x : Ex, (match s3.h.get k with
      | some (.loop q2) => if s3.df.isEmpty then some (Out.ret (.val (.bool x.code.isNone)), s3.h.set k (some (.loop { q2 with st := if x.code.isNone then .ready else .done, pe := x }))) else none
      | _ => none) = some (out, h') → ∃ v w', (Instr.endRound b x.code).run P w3 = .ok v w' ∧ ∃ K', K.le K' ∧ Sim C K' h' w' ∧ OutRel K' out (.returned v) := fun x hq => by
    split at hq <;> try (cases hq; done)
    rename_i q2 hk2
    split at hq <;> try (cases hq; done)
    cases hq
    obtain ⟨b', n', O, i1, i2, i3, ⟨fn2, tmps2, as2, bd2, dnb2, z2, rfl, e1, e2, e3, e4, e5, e6, e7⟩, i5⟩ := s3'.live _ _ hk2
    rw [hb3] at i1; cases i1
    have hlt : b < w3.heap.size := (Array.getElem?_eq_some_iff.1 i3).1
    refine ⟨_, _, run_endRound x.code i3, K3, l1.trans l3, ?_, .ret _ _ (Den.val (.bool _) rfl)⟩
    exact s3'.turn (B := .loop { q2 with st := if x.code.isNone then .ready else .done, pe := x }) hk2 hb3 (putObj_grown (w := w3) (b := b) _) (World.putObj_heap_same hlt)
      (show BlkRel C.ofc _ _ _ (.loop _) from ⟨fn2, tmps2, as2, bd2, dnb2, z2, rfl, e1, e2, e3, e4, e5, e6, e7⟩)
  cases x3 with
  | normal => exact fin .normal hq
  | exit id => exact fin (.exit id) hq
  | ret => exact fin .ret hq
  | pan d v hv =>
    simp only at hq
    split at hq <;> try (cases hq; done)
    rename_i hdf
    simp only [Option.some.injEq, Prod.mk.injEq] at hq
    obtain ⟨rfl, rfl⟩ := hq
    exact ⟨nil3 hdf, K3, l1.trans l3, s3', .pan _ _ hv⟩
end
end Go.Em
/- Deferred calls, which may recover. -/
namespace Go.Em
open Go Go.RowKit

inductive WRel (K : Ctx) : Option D → FrameMode → Prop
  | none : WRel K none .returning
  | done (v : Value) : WRel K none (.panicking [{ v, recovered := true }])
  | some (d : D) (v : Value) : Den K v d → WRel K (some d) (.panicking [{ v, recovered := false }])
theorem WRel.mono {K K' : Ctx} (hle : K.le K') {p : Option D} {u : FrameMode} (h : WRel K p u) : WRel K' p u := by
  cases h with
  | none => exact .none
  | done v => exact .done v
  | some d v hv => exact .some d v (hv.mono hle)
theorem URel.w {K : Ctx} {p : Option D} {u : FrameMode} (h : URel K p u) : WRel K p u := by
  cases h with
  | none => exact .none
  | some d v hv => exact .some d v hv
theorem WRel.settle {K : Ctx} {p : Option D} {u : FrameMode} (h : WRel K p u) : URel K p (settle u) := by
  cases h with
  | none => exact .none
  | done v => exact .none
  | some d v hv => exact .some d v hv

def PostS (C : Cx) (K : Ctx) (N : Nat) (x : Ex) (s' : St) (p' : Option D) (c0 : Frame) (cs : List Frame) (QQ : Exit → Act → List Frame → World → Prop) : Prop :=
  ∀ (K' : Ctx) (a' : Act) (w' : World) (ex : Exit) (u' : FrameMode), K.le K' → Sim C K' s'.h w' → Fd K' N s' a' → ExRel K' x ex → WRel K' p' u' → QQ ex a' ({ c0 with mode := u' } :: cs) w'
theorem PostS.mono {C : Cx} {K K1 : Ctx} {N : Nat} {x : Ex} {s' : St} {p' : Option D} {c0 : Frame} {cs : List Frame} {QQ : Exit → Act → List Frame → World → Prop} (h : PostS C K N x s' p' c0 cs QQ) (hle : K.le K1) : PostS C K1 N x s' p' c0 cs QQ :=
  fun K' a' w' ex u' h1 h2 h3 h4 h5 => h K' a' w' ex u' (hle.trans h1) h2 h3 h4 h5

section
variable {P : Program} {pg : Pg} {n : Nat} {R : Rc}

theorem Cl.of_rcv {N : Nat} {o : Oper} (h : Cl.of P N o = some .rcv) : ∃ cc, o.op = .call cc ∧ cc.callee = .builtin .recover := by
  unfold Cl.of at h
  split at h
  · rename_i cc hop
    split at h
    · split at h <;> try (cases h; done)
      simp only [Option.map_eq_some_iff] at h
      obtain ⟨_, _, h⟩ := h
      unfold mkCall at h
      split at h <;> cases h
    · simp only [Option.bind_eq_some_iff, Option.map_eq_some_iff] at h
      obtain ⟨_, _, _, _, h⟩ := h; cases h
    · rename_i hcal; exact ⟨cc, hop, hcal⟩
    · cases h
  · split at h
    · simp only [Option.bind_eq_some_iff, Option.map_eq_some_iff] at h
      obtain ⟨_, _, _, _, h⟩ := h; cases h
    · cases h
  · simp only [Option.map_eq_some_iff] at h
    obtain ⟨_, _, h⟩ := h; cases h
  · cases h

theorem gsS_sound {c : Cfg} (hc : c.pg = pg) {base : Nat} {ops : Array Oper} {C : Cx} (hC : IsC P pg C) {m : Nat} {c0 : Frame} {cs : List Frame} {QQ : Exit → Act → List Frame → World → Prop} : ∀ (l : List Oper) (i : Nat) (gs : List G), ops.toList.drop i = l → Gs.of P c.N ops l = some gs →
    ∀ (s : St) (p : Option D) (s' : St) (p' : Option D) (K : Ctx) (a : Act) (w : World) (u : FrameMode), runGS c R base gs s p = some (s', p') → Sim C K s.h w → Fd K c.N s a → WRel K p u → PostS C K c.N .normal s' p' c0 cs QQ →
      wpOpsSIn (Fe P none) m P ops QQ (List.range' i l.length) a ({ c0 with mode := u } :: cs) w
  | [], i, gs, hl, h, s, p, s', p', K, a, w, u, hq, hs, hf, hu, hp => by
    simp only [Gs.of, Option.some.injEq] at h
    subst h
    simp only [runGS, Option.some.injEq, Prod.mk.injEq] at hq
    obtain ⟨rfl, rfl⟩ := hq
    exact hp K a w .normal u (.refl K) hs hf .normal hu
  | o :: l, i, gs, hl, h, s, p, s', p', K, a, w, u, hq, hs, hf, hu, hp => by
    simp only [Gs.of, Option.bind_eq_some_iff, Option.some.injEq] at h
    obtain ⟨g, hg, gs', hgs, rfl⟩ := h
    obtain ⟨hgu, hgd, hgo⟩ := G.of_parts hg
    have hoi : ops[i]? = some o := by
      have : ops.toList[i]? = some o := by
        have := congrArg (·[0]?) hl
        simpa [List.getElem?_drop] using this
      simpa using this
    have hl' : ops.toList.drop (i + 1) = l := by
      have := congrArg (List.drop 1) hl
      simpa [List.drop_drop, Nat.add_comm] using this
    have next : ∀ (s1 : St) (p1 : Option D) (K1 : Ctx) (a1 : Act) (w1 : World) (u1 : FrameMode), runGS c R base gs' s1 p1 = some (s', p') → K.le K1 → Sim C K1 s1.h w1 → Fd K1 c.N s1 a1 → WRel K1 p1 u1 →
        wpOpsSIn (Fe P none) m P ops QQ (List.range' (i + 1) l.length) a1 ({ c0 with mode := u1 } :: cs) w1 := fun s1 p1 K1 a1 w1 u1 h1 h2 h3 h4 h5 =>
      gsS_sound hc hC l (i + 1) gs' hl' hgs s1 p1 s' p' K1 a1 w1 u1 h1 h3 h4 h5 (hp.mono h2)
    simp only [List.length_cons, List.range'_succ, wpOpsSIn, hoi]
    simp only [runGS] at hq
    split at hq <;> try (cases hq; done)
    · rename_i hw
      have hwant := guard_wanted (K := K) (a := a) hgu hf (d := g.d) (q := g.o) (b := true) hw
      rw [hwant, if_pos rfl]
      rcases hgo with ⟨mm, hm, hgo⟩ | ⟨q, hcl, hgo⟩
      · refine ⟨G.of_about mm.2.1, ?_⟩
        rw [hgo] at hq
        simp only at hq
        split at hq <;> try (cases hq; done)
        rename_i d h1 hme
        rw [hc, ← hC.hpg] at hme
        rw [hgd] at hme hq
        obtain ⟨v, w', K', hd, hle, hs', hv⟩ := mm.2.2 C K s.h h1 w s.e a _ d hC.hP hs hf.fr hme
        have hfd : Fd K' c.N { s with e := put s.e o.dst d, h := h1 } (a.put o.dst v) := ⟨(hf.fr.mono hle).put o.dst hv, by have := hf.df.mono hle; cases hd : o.dst <;> exact this⟩
        have := next _ p K' _ w' u hq hle hs' hfd (hu.mono hle)
        cases hd with
        | value _ _ h => rw [h]; exact this
        | skip _ h => rw [h]; exact this
      · rw [hgo] at hq
        cases q with
        | rcv =>
          simp only at hq
          obtain ⟨cc, hop, hcal⟩ := Cl.of_rcv hcl
          have hpl : opPlain o.op = true := by rw [hop]; simp [opPlain, hcal]
          refine ⟨G.of_about hpl, ?_⟩
          have hrun : (execOp a.eval o).run P w = .ok .recover w := by
            simp [execOp, hop, resolve, hcal, invoke]
            rfl
          rw [hrun]
          simp only [recoverD]
          rw [hgd] at hq
          have hfd : ∀ {v : Value} {d : D}, Den K v d → Fd K c.N { s with e := put s.e o.dst d } (a.put o.dst v) := fun hv => ⟨hf.fr.put o.dst hv, by have := hf.df; cases hd : o.dst <;> exact this⟩
          cases hu with
          | none => exact next _ none K _ w .returning hq (.refl K) hs (hfd (.val .nilIface rfl)) .none
          | done v => exact next _ none K _ w (.panicking [{ v, recovered := true }]) hq (.refl K) hs (hfd (.val .nilIface rfl)) (.done v)
          | some d v hv => exact next _ none K _ w (.panicking [{ v, recovered := true }]) hq (.refl K) hs (hfd hv) (.done v)
        | _ => simp only at hq; cases hq
    · rename_i hw
      have hwant := guard_wanted (K := K) (a := a) hgu hf (d := g.d) (q := g.o) (b := false) hw
      rw [hwant, if_neg (by simp)]
      split at hq <;> try (cases hq; done)
      rename_i hqt
      have hgn : o.guard ≠ none := fun e => by
        rw [e] at hgu
        simp only [guardOf, Option.some.injEq] at hgu
        rw [G.want, ← hgu] at hw
        cases hw
      refine ⟨G.about_left hc hg hC hs hf hqt hgn, ?_⟩
      rw [hgd] at hq
      exact next _ p K _ w u hq (.refl K) hs (hf.skip o.dst) hu

theorem s_plain (hR : RSound P pg n R) {code : Code} {cd : Cd} {c : Cfg} (hc : c.pg = pg) (hr : c.r = none) (hcd : Cd.of P c.N code = some cd) {s : St} {x : Ex} {s' : St} (hq : cd.ev c R s = some (x, s')) {C : Cx} {K : Ctx} {a : Act} {w : World} {m : Nat} {p : Option D} {u : FrameMode} {c0 : Frame} {cs : List Frame} {QQ : Exit → Act → List Frame → World → Prop}
    (hC : IsC P pg C) (hs : Sim C K s.h w) (hf : Fd K c.N s a) (hu : WRel K p u) (hp : PostS C K c.N x s' p c0 cs QQ) : code.wpSIn (Fe P none) m P QQ a ({ c0 with mode := u } :: cs) w :=
  wpSIn_of_wpIn rfl (code_sound hR code cd c hc hcd s x s' hq C K a w none m _ hC (by rw [hr]; trivial) hs hf fun K' a' w' ex h1 h2 h3 h4 => hp K' a' w' ex u h1 h2 h3 h4 (hu.mono h1))

theorem codeS_sound (hR : RSound P pg n R) : ∀ (code : Code) (cd : Cd) (c : Cfg), c.pg = pg → c.r = none → Cd.of P c.N code = some cd → ∀ (s : St) (p : Option D) (x : Ex) (s' : St) (p' : Option D), cd.evS c R s p = some (x, s', p') → ∀ (C : Cx) (K : Ctx) (a : Act) (w : World) (m : Nat) (u : FrameMode) (c0 : Frame) (cs : List Frame) (QQ : Exit → Act → List Frame → World → Prop),
    IsC P pg C → Sim C K s.h w → Fd K c.N s a → WRel K p u → PostS C K c.N x s' p' c0 cs QQ → code.wpSIn (Fe P none) m P QQ a ({ c0 with mode := u } :: cs) w := by
  intro code
  induction code with
  | region id ops draw =>
    intro cd c hc hr h s p x s' p' hq C K a w m u c0 cs QQ hC hs hf hu hp
    cases draw with
    | true =>
      have h' := h
      simp only [Cd.of, Option.bind_eq_some_iff] at h
      obtain ⟨gs, hgs, h⟩ := h
      have hcd : ∃ xs, cd = .draw xs := by
        split at h
        · cases h; exact ⟨_, rfl⟩
        · split at h <;> cases h
          exact ⟨_, rfl⟩
      obtain ⟨xs, rfl⟩ := hcd
      unfold Cd.evS at hq
      split at hq <;> cases hq
      rename_i hev
      exact s_plain hR hc hr h' hev hC hs hf hu hp
    | false =>
      have h' := h
      simp only [Cd.of, Option.map_eq_some_iff] at h
      obtain ⟨gs, hgs, rfl⟩ := h
      simp only [Cd.evS] at hq
      split at hq
      · simp only [Option.map_eq_some_iff, Prod.mk.injEq] at hq
        obtain ⟨⟨s1, p1⟩, hq, rfl, h2⟩ := hq
        simp only [Prod.mk.injEq] at h2
        obtain ⟨rfl, rfl⟩ := h2
        refine wpSIn_region ?_
        have := gsS_sound (P := P) (pg := pg) (R := R) hc hC (m := m) (c0 := c0) (cs := cs) (QQ := QQ) ops.toList 0 gs rfl hgs _ p s1 p1 K a w u hq (hs.bump _) (hf.env _) hu hp
        rw [List.range_eq_range']
        simpa using this
      · split at hq <;> cases hq
        rename_i hev
        exact s_plain hR hc hr h' hev hC hs hf hu hp
  | seq e f ihe ihf =>
    intro cd c hc hr h s p x s' p' hq C K a w m u c0 cs QQ hC hs hf hu hp
    simp only [Cd.of, Option.bind_eq_some_iff, Option.some.injEq] at h
    obtain ⟨ce, he, cf, hff, rfl⟩ := h
    simp only [Cd.evS] at hq
    refine wpSIn_seq ?_
    cases hu1 : ce.evS c R s p with
    | none => rw [hu1] at hq; cases hq
    | some r =>
      obtain ⟨x1, s1, p1⟩ := r
      rw [hu1] at hq
      refine ihe ce c hc hr he s p x1 s1 p1 hu1 C K a w m u c0 cs _ hC hs hf hu fun K' a' w' ex u' h1 h2 h3 h4 h5 => ?_
      cases x1 with
      | normal =>
        cases h4
        exact ihf cf c hc hr hff s1 p1 x s' p' hq C K' a' w' m u' c0 cs QQ hC h2 h3 h5 (hp.mono h1)
      | exit id => cases hq; cases h4; exact hp K' a' w' _ u' h1 h2 h3 (.exit id) h5
      | ret => cases hq; cases h4; exact hp K' a' w' _ u' h1 h2 h3 .ret h5
      | pan d => cases hq; cases h4 with | pan _ v hv => exact hp K' a' w' _ u' h1 h2 h3 (.pan d v hv) h5
  | cond g e f ihe ihf =>
    intro cd c hc hr h s p x s' p' hq C K a w m u c0 cs QQ hC hs hf hu hp
    simp only [Cd.of, Option.bind_eq_some_iff, Option.some.injEq] at h
    obtain ⟨xg, hg, ce, he, cf, hff, rfl⟩ := h
    have hdg := hf.fr.rd hs hg
    rw [hC.hpg] at hdg
    simp only [Cd.evS, hc] at hq
    split at hq <;> try (cases hq; done)
    · rename_i hb
      rw [hb] at hdg
      exact wpSIn_cond (t := true) hdg.val_eq (ihe ce c hc hr he s p x s' p' hq C K a w m u c0 cs QQ hC hs hf hu hp)
    · rename_i hb
      rw [hb] at hdg
      exact wpSIn_cond (t := false) hdg.val_eq (ihf cf c hc hr hff s p x s' p' hq C K a w m u c0 cs QQ hC hs hf hu hp)
  | rangeFunc g ps e f ihe ihf =>
    intro cd c hc hr h s p x s' p' hq C K a w m u c0 cs QQ hC hs hf hu hp
    have h' := h
    simp only [Cd.of, Option.bind_eq_some_iff] at h
    obtain ⟨xg, hg, ce, he, cf, hff, h⟩ := h
    split at h <;> cases h
    unfold Cd.evS at hq
    split at hq <;> cases hq
    rename_i hev
    exact s_plain hR hc hr h' hev hC hs hf hu hp
  | block id e ih =>
    intro cd c hc hr h s p x s' p' hq C K a w m u c0 cs QQ hC hs hf hu hp
    have h' := h
    simp only [Cd.of, Option.map_eq_some_iff] at h
    obtain ⟨ce, he, rfl⟩ := h
    unfold Cd.evS at hq
    split at hq <;> cases hq
    rename_i hev
    exact s_plain hR hc hr h' hev hC hs hf hu hp
  | loop e ih =>
    intro cd c hc hr h s p x s' p' hq C K a w m u c0 cs QQ hC hs hf hu hp
    have h' := h
    simp only [Cd.of, Option.map_eq_some_iff] at h
    obtain ⟨ce, he, rfl⟩ := h
    unfold Cd.evS at hq
    split at hq <;> cases hq
    rename_i hev
    exact s_plain hR hc hr h' hev hC hs hf hu hp
  | scope e ih =>
    intro cd c hc hr h s p x s' p' hq C K a w m u c0 cs QQ hC hs hf hu hp
    have h' := h
    simp only [Cd.of, Option.map_eq_some_iff] at h
    obtain ⟨ce, he, rfl⟩ := h
    unfold Cd.evS at hq
    split at hq <;> cases hq
    rename_i hev
    exact s_plain hR hc hr h' hev hC hs hf hu hp
  | skip =>
    intro cd c hc hr h s p x s' p' hq C K a w m u c0 cs QQ hC hs hf hu hp
    have h' := h
    cases h
    unfold Cd.evS at hq
    split at hq <;> cases hq
    rename_i hev
    exact s_plain hR hc hr h' hev hC hs hf hu hp
  | label l =>
    intro cd c hc hr h s p x s' p' hq C K a w m u c0 cs QQ hC hs hf hu hp
    have h' := h
    cases h
    unfold Cd.evS at hq
    split at hq <;> cases hq
    rename_i hev
    exact s_plain hR hc hr h' hev hC hs hf hu hp
  | exit id =>
    intro cd c hc hr h s p x s' p' hq C K a w m u c0 cs QQ hC hs hf hu hp
    have h' := h
    cases h
    unfold Cd.evS at hq
    split at hq <;> cases hq
    rename_i hev
    exact s_plain hR hc hr h' hev hC hs hf hu hp
  | ret =>
    intro cd c hc hr h s p x s' p' hq C K a w m u c0 cs QQ hC hs hf hu hp
    have h' := h
    cases h
    unfold Cd.evS at hq
    split at hq <;> cases hq
    rename_i hev
    exact s_plain hR hc hr h' hev hC hs hf hu hp
  | _ => intro cd c hc hr h; simp [Cd.of] at h

theorem df_sound (hP : PgOk P pg) (hR : RSound P pg n R) (f : FuncId) (args : List D) (p : Option D) (h : Heap) (p' : Option D) (h' : Heap) (hq : dfBody pg R f args p h = some (p', h')) :
    FnIs P f ∧ ∀ (C : Cx) (K : Ctx) (w : World) (vs : List Value) (u : FrameMode) (m : Nat), IsC P pg C → Sim C K h w → DenL K vs args → URel K p u →
    CallsDIn (Fe P none) m P f vs.toArray u w fun e u' w' => ∃ v K', e = .returned v ∧ K.le K' ∧ Sim C K' h' w' ∧ URel K' p' (settle u') := by
  unfold dfBody at hq
  split at hq <;> try (cases hq; done)
  rename_i fc hfc
  split at hq <;> try (cases hq; done)
  rename_i hlen
  obtain ⟨fn, cc, h1, h2, h3, h4, h5, h6⟩ := hP.fn hfc
  refine ⟨h3, fun C K w vs u m hC hs hd hu => ?_⟩
  have hfd := start_fd (fc := fc) hd hlen h
  refine callsDIn_of_wpSIn h1 h2 (by show (P.funcs[f]?).isSome = true; rw [h1]; rfl) fun c0 cs hc0 => ?_
  rw [h4, show vs.toArray.size = vs.length by simp]
  have hcs : (c0 :: cs) = ({ c0 with mode := u } :: cs) := by subst hc0; rfl
  rw [hcs]
  have fin : ∀ (s1 : St) (p1 : Option D), (if s1.df.isEmpty then (resL s1.h s1.e fc.rs).map fun _ => (p1, s1.h) else none) = some (p', h') → ∀ (K1 : Ctx) (a1 : Act) (w1 : World) (u1 : FrameMode), K.le K1 → Sim C K1 s1.h w1 → Fd K1 fc.N s1 a1 → WRel K1 p1 u1 →
      a1.defers = [] ∧ ∃ u', ({ c0 with mode := u1 } :: cs) = ({ c0 with mode := u' } :: cs) ∧ ∃ v, (results fn a1.tmps).run P w1 = .ok v w1 ∧ ∃ v0 K', Ending.returned v = .returned v0 ∧ K.le K' ∧ Sim C K' h' w1 ∧ URel K' p' (settle u') := by
    intro s1 p1 hq K1 a1 w1 u1 q1 q2 q3 q4
    split at hq <;> try (cases hq; done)
    rename_i hdf
    simp only [Option.map_eq_some_iff, Prod.mk.injEq] at hq
    obtain ⟨ds, hres, rfl, rfl⟩ := hq
    obtain ⟨v, hv, hdv⟩ := run_results (P := P) q2 q3.fr h6 hres
    exact ⟨q3.df.nil_inv hdf, u1, rfl, v, hv, v, K1, rfl, q1, q2, q4.settle⟩
  split at hq <;> try (cases hq; done)
  · rename_i s1 p1 hev
    exact codeS_sound hR cc fc.code ⟨pg, fc.N, none⟩ rfl rfl h5 _ _ _ _ _ hev C K _ w m u c0 cs _ hC hs hfd hu.w fun K1 a1 w1 ex u1 q1 q2 q3 q4 q5 => by
      cases q4; exact fin s1 p1 hq K1 a1 w1 u1 q1 q2 q3 q5
  · rename_i s1 p1 hev
    exact codeS_sound hR cc fc.code ⟨pg, fc.N, none⟩ rfl rfl h5 _ _ _ _ _ hev C K _ w m u c0 cs _ hC hs hfd hu.w fun K1 a1 w1 ex u1 q1 q2 q3 q4 q5 => by
      cases q4; exact fin s1 p1 hq K1 a1 w1 u1 q1 q2 q3 q5

theorem rc_sound (hP : PgOk P pg) : ∀ n, RSound P pg n (rc pg n)
  | 0 => ⟨⟨fun f args h out h' hq => (by cases hq)⟩, fun k args h out h' hq => (by cases hq), fun c cd s x s' hq => (by cases hq), fun f args p h p' h' hq => (by cases hq)⟩
  | n + 1 => ⟨fn_sound hP (rc_sound hP n), yl_sound (rc_sound hP n), lp_sound (rc_sound hP n), df_sound hP (rc_sound hP n)⟩
end
end Go.Em
