/- Operations of a region, one behind the other. -/
import Derived.Test.YtfemldhlanoakaaGreatDoorEmO
import Derived.Laws.Externs
namespace Go.Em
open Go Go.RowKit

def RndOk (K : Ctx) : Option Nat → Option Nat → Prop
  | none, none => True
  | some k, some b => ∃ n, K.loc k = some (b, n)
  | _, _ => False
theorem RndOk.mono {K K' : Ctx} (h : K.le K') {r rb : Option Nat} (x : RndOk K r rb) : RndOk K' r rb := by
  cases r <;> cases rb <;> first | exact x | (obtain ⟨n, hn⟩ := x; exact ⟨n, h.loc _ _ hn⟩)

def Post (C : Cx) (K : Ctx) (N : Nat) (x : Ex) (s' : St) (QQ : Exit → Act → World → Prop) : Prop :=
  ∀ (K' : Ctx) (a' : Act) (w' : World) (ex : Exit), K.le K' → Sim C K' s'.h w' → Fd K' N s' a' → ExRel K' x ex → QQ ex a' w'
theorem Post.mono {C : Cx} {K K1 : Ctx} {N : Nat} {x : Ex} {s' : St} {QQ : Exit → Act → World → Prop} (h : Post C K N x s' QQ) (hle : K.le K1) : Post C K1 N x s' QQ :=
  fun K' a' w' ex h1 h2 h3 h4 => h K' a' w' ex (hle.trans h1) h2 h3 h4

inductive URel (K : Ctx) : Option D → FrameMode → Prop
  | none : URel K none .returning
  | some (d : D) (v : Value) : Den K v d → URel K (some d) (.panicking [{ v, recovered := false }])

structure RSound (P : Program) (pg : Pg) (n : Nat) (R : Rc) : Prop where
  fn : FnS P pg R.fn
  yl : ∀ k args h out h', R.yl k args h = some (out, h') → ∀ (C : Cx) (K : Ctx) (w : World) (vs : List Value) (b z : Nat), IsC P pg C → Sim C K h w → K.loc k = some (b, z) → DenL K vs args →
    ∃ fn tmps as bd, (Instr.yield b vs.toArray).run P w = .ok (.round b fn tmps as bd) w ∧ ∀ m, RoundIn (Fe P none) m P b fn tmps as bd w fun e w' => ∃ K', K.le K' ∧ Sim C K' h' w' ∧ OutRel K' out e
  lp : ∀ (c : Cfg) (cd : Cd) (s : St) (x : Ex) (s' : St), R.lp c cd s = some (x, s') → ∀ (code : Code), c.pg = pg → Cd.of P c.N code = some cd → ∀ (C : Cx) (K : Ctx) (a : Act) (w : World) (rb : Option Nat) (m : Nat) (QQ : Exit → Act → World → Prop),
    IsC P pg C → RndOk K c.r rb → Sim C K s.h w → Fd K c.N s a → Post C K c.N x s' QQ → Code.roundsIn (Fe P rb) m P code QQ n a w
  df : ∀ f args p h p' h', R.df f args p h = some (p', h') → FnIs P f ∧ ∀ (C : Cx) (K : Ctx) (w : World) (vs : List Value) (u : FrameMode) (m : Nat), IsC P pg C → Sim C K h w → DenL K vs args → URel K p u →
    CallsDIn (Fe P none) m P f vs.toArray u w fun e u' w' => ∃ v K', e = .returned v ∧ K.le K' ∧ Sim C K' h' w' ∧ URel K' p' (settle u')

section
variable {P : Program} {o : Oper} {a : Act} {w w' : World} {rb : Option Nat} {m : Nat} {next : Act → World → Prop} {Q : Exit → Act → World → Prop}

theorem wpIn_did {v : Value} (hpl : opPlain o.op = true) (hd : Did P o a w v w') (k : next (a.put o.dst v) w') : o.wpIn (Fe P rb) m P a w next Q := by
  refine ⟨fun f hf => (by rw [plain_about hpl] at hf; cases hf), ?_⟩
  rw [Oper.semAt_plain _ _ _ (plain_defer hpl)]
  cases hd with
  | value _ _ h => rw [h]; exact k
  | skip _ h => rw [h]; exact k

theorem callsIn_fe {f : FuncId} {args : Array Value} {R : Ending → World → Prop} (h : CallsIn (Fe P none) m P f args w R) : CallsIn (Fe P rb) m P f args w R := by
  cases rb with
  | none => exact h
  | some l => exact CallsIn.inRound l h

/-- What becomes of a frame behind a call. -/
def Behind (a : Act) (o : Oper) (next : Act → World → Prop) (Q : Exit → Act → World → Prop) : Ending → World → Prop
  | .returned v, w' => next (a.put o.dst v) w'
  | .panicked chain, w' => Q (.panic chain) a w'
  | .outgrown, _ => False

theorem wpIn_call {f : FuncId} {vs : Array Value} (hnd : ∀ c, o.op ≠ .defer c) (hab : ∀ f', o.about P w a.eval = some f' → (P.funcs[f']?).isSome = true) (hr : (execOp a.eval o).run P w = .ok (.enter f vs) w)
    (hc : CallsIn (Fe P none) (m - 1) P f vs w (Behind a o next Q)) : o.wpIn (Fe P rb) m P a w next Q := by
  refine ⟨hab, ?_⟩
  rw [Oper.semAt_plain _ _ _ hnd, hr]
  refine ⟨fun h => by simp [Fe] at h, CallsIn.monoE (callsIn_fe hc) fun e w' h => ?_⟩
  cases e with
  | returned v => exact h
  | panicked ch => exact h
  | outgrown => exact h.elim

theorem wpIn_round {l fn : Nat} {tmps : Array Value} {as bd : Code} (hnd : ∀ c, o.op ≠ .defer c) (hab : o.about P w a.eval = none) (hr : (execOp a.eval o).run P w = .ok (.round l fn tmps as bd) w)
    (hc : RoundIn (Fe P none) (m - 1) P l fn tmps as bd w (Behind a o next Q)) : o.wpIn (Fe P rb) m P a w next Q := by
  refine ⟨fun f hf => (by rw [hab] at hf; cases hf), ?_⟩
  rw [Oper.semAt_plain _ _ _ hnd, hr]
  have hc' : RoundIn (Fe P rb) (m - 1) P l fn tmps as bd w (Behind a o next Q) := by
    cases rb with
    | none => exact hc
    | some l => exact hc
  refine ⟨fun h => by simp [Fe] at h, hc'.mono fun e w' h => ?_⟩
  cases e with
  | returned v => exact h
  | panicked ch => exact h
  | outgrown => exact h.elim
end

section
variable {P : Program} {pg : Pg} {n : Nat} {R : Rc}

theorem fn_run {f : FuncId} (hf : FnIs P f) (args : Array Value) (w : World) : (callFunc f args).run P w = .ok (.enter f args) w := by
  obtain ⟨fn, h1, h2, h3⟩ := hf
  simp [callFunc, h1, h2, h3]
theorem fn_some {f : FuncId} (hf : FnIs P f) : (P.funcs[f]?).isSome = true := by
  obtain ⟨fn, h1, h2, h3⟩ := hf
  simp [h1]

theorem ixb_generic : (Extern.allGenericRows.lookup "internal/bytealg.IndexByteString").isNone = true := by kernel_rfl
theorem ixb_typed : (Extern.allTypedRows.lookup "internal/bytealg.IndexByteString").isNone = true := by kernel_rfl
theorem ixb_next : (Extern.allNextRows.lookup "internal/bytealg.IndexByteString").isNone = true := by kernel_rfl
theorem ixb_next0 : (Extern.allNextRows.lookup "").isNone = true := by kernel_rfl
theorem ixb_rows : Extern.allRows.lookup "internal/bytealg.IndexByteString" = some Extern.BytealgIndexByte.indexByte := by kernel_rfl

theorem ixb_run {f : FuncId} (hib : isIxb P f = true) (b : ByteArray) (n : Int) (w : World) :
    (callFunc f #[.string b, .int .u8 n]).run P w = .ok (.value (match (List.range b.size).find? (fun i => b[i]! == n.toNat.toUInt8) with | some i => .int .i64 i | none => .int .i64 (-1))) w := by
  unfold isIxb at hib
  split at hib <;> try (cases hib; done)
  rename_i fn hf
  simp only [Bool.and_eq_true, beq_iff_eq] at hib
  obtain ⟨⟨h1, h2⟩, h3⟩ := hib
  have hn : Extern.findNext fn = none := by
    have e1 := Option.isNone_iff_eq_none.1 ixb_next
    have e2 := Option.isNone_iff_eq_none.1 ixb_next0
    simp only [Extern.findNext, h2, h3, e1, e2]
    rfl
  have he : Extern.find fn = some Extern.BytealgIndexByte.indexByte := by
    have e1 := Option.isNone_iff_eq_none.1 ixb_generic
    have e2 := Option.isNone_iff_eq_none.1 ixb_typed
    simp only [Extern.find, h2, e1, e2, ixb_rows]
    rfl
  rw [run_callFunc_extern hf (by rw [h2]; rfl) h1 hn he]
  have hx : Extern.BytealgIndexByte.indexByte #[.string b, .int .u8 n] = (match (List.range b.size).find? (fun i => b[i]! == n.toNat.toUInt8) with | some i => pure (goInt i) | none => pure (goInt (-1))) := rfl
  rw [hx]
  split <;> rfl

theorem ixb_sound {c : Cfg} {o : Oper} {cc : Call} {f : FuncId} {xs : List X} (hib : isIxb P f = true) (hsm : (P.funcs[f]?).isSome = true) (hop : o.op = .call cc) (hcal : cc.callee = .value (.func f)) {s : St} {r : Op1} (hev : (Cl.ixb f xs).ev c R s = some r)
    {C : Cx} {K : Ctx} {a : Act} {w : World} {rb : Option Nat} {m : Nat} (hargs : DenL K (cc.args.toList.map a.eval) (xs.map (rd c.pg.gl s.e))) (hs : Sim C K s.h w) (hf : Fd K c.N s a) {next : Act → World → Prop} {Q : Exit → Act → World → Prop}
    (kn : ∀ d s', r = .ok d s' → ∀ (K' : Ctx) (a' : Act) (w' : World), K.le K' → Sim C K' s'.h w' → Fd K' c.N { s' with e := put s'.e o.dst d } a' → next a' w') : o.wpIn (Fe P rb) m P a w next Q := by
  simp only [Cl.ev] at hev
  split at hev <;> try (cases hev; done)
  rename_i b n hr
  cases hev
  rw [hr] at hargs
  have hnd : ∀ c', o.op ≠ .defer c' := fun c' => by rw [hop]; intro x; cases x
  have hres : ∀ ρ : Operand → Value, ρ (.func f) = .func (.func f) #[] #[] → (resolve ρ cc o.type).run P w = .ok { target := .fn (.func f) #[], args := cc.args.map ρ } w := fun ρ hρ => by
    simp [resolve, hcal, hρ, Deferred.ofValue]
  have hlist : cc.args.toList.map a.eval = [.string b, .int .u8 n] := by
    generalize cc.args.toList.map a.eval = l at hargs
    cases hargs with
    | cons v _ vs _ k1 k2 => cases k2 with
      | cons v' _ vs' _ k3 k4 => cases k4; rw [k1.val_eq, k3.val_eq]
  have hargs' : cc.args.map a.eval = #[.string b, .int .u8 n] := by
    rw [← Array.toList_inj, Array.toList_map, hlist]
  refine ⟨fun f' hf' => ?_, ?_⟩
  · simp only [Oper.about, hop, hres a.eval rfl, Target.leads, Option.some.injEq] at hf'
    rw [← hf']; exact hsm
  · rw [Oper.semAt_plain _ _ _ hnd]
    have hrun : (execOp a.eval o).run P w = .ok (.value (match (List.range b.size).find? (fun i => b[i]! == n.toNat.toUInt8) with | some i => .int .i64 i | none => .int .i64 (-1))) w := by
      simp only [execOp, hop, Sem.run_bind, hres a.eval rfl, Result.andThen_ok, invoke, Array.append_empty, hargs']
      exact ixb_run hib b n w
    rw [hrun]
    refine kn _ _ rfl K _ w (.refl K) hs ⟨hf.fr.put o.dst (.val _ ?_), by have := hf.df; cases hd : o.dst <;> exact this⟩
    split <;> rfl

/-- One operation that runs code. -/
theorem cl_sound (hR : RSound P pg n R) {c : Cfg} (hc : c.pg = pg) {o : Oper} {q : Cl} (hq : Cl.of P c.N o = some q) {s : St} {r : Op1} (hev : q.ev c R s = some r) {C : Cx} {K : Ctx} {a : Act} {w : World} {rb : Option Nat} {m : Nat} (hC : IsC P pg C) (hrb : RndOk K c.r rb)
    (hs : Sim C K s.h w) (hf : Fd K c.N s a) {next : Act → World → Prop} {Q : Exit → Act → World → Prop}
    (kn : ∀ d s', r = .ok d s' → ∀ (K' : Ctx) (a' : Act) (w' : World), K.le K' → Sim C K' s'.h w' → Fd K' c.N { s' with e := put s'.e o.dst d } a' → next a' w')
    (kp : ∀ d s', r = .pan d s' → ∀ (K' : Ctx) (a' : Act) (w' : World) (ex : Exit), K.le K' → Sim C K' s'.h w' → Fd K' c.N s' a' → ExRel K' (.pan d) ex → Q ex a' w') : o.wpIn (Fe P rb) m P a w next Q := by
  have hpgl : c.pg.gl = C.pg.gl := by rw [hc, hC.hpg]
  have behind : ∀ {out : Out} {h' : Heap}, (match out with | .ret d => r = .ok d { s with h := h' } | .pan d => r = .pan d { s with h := h' }) → ∀ e w', (∃ K', K.le K' ∧ Sim C K' h' w' ∧ OutRel K' out e) → Behind a o next Q e w' := fun {out h'} hr e w' ⟨K', h1, h2, h3⟩ => by
    cases h3 with
    | ret d v hv => exact kn d _ hr K' _ w' h1 h2 ⟨(hf.fr.mono h1).put o.dst hv, by have := hf.df.mono h1; cases hd : o.dst <;> exact this⟩
    | pan d v hv => exact kp d _ hr K' a w' _ h1 h2 ⟨(hf.mono h1).fr, (hf.mono h1).df⟩ (.pan d v hv)
  unfold Cl.of at hq
  split at hq
  · rename_i cc hop
    split at hq
    · -- a function
      rename_i f hcal
      split at hq <;> try (cases hq; done)
      simp only [Option.map_eq_some_iff] at hq
      obtain ⟨xs, hxs, rfl⟩ := hq
      have hargs := mapM_rd hf.fr hs _ _ hxs
      rw [hC.hpg] at hargs
      unfold mkCall at hev
      split at hev
      · rename_i hib
        exact ixb_sound hib (by assumption) hop hcal hev (by rw [hc]; exact hargs) hs hf kn
      simp only [Cl.ev] at hev
      have hnd : ∀ c', o.op ≠ .defer c' := fun c' => by rw [hop]; intro x; cases x
      obtain ⟨out, h', hcall, hr⟩ : ∃ out h', call c.pg R f (xs.map (rd c.pg.gl s.e)) s.h = some (out, h') ∧ (match out with | .ret d => r = .ok d { s with h := h' } | .pan d => r = .pan d { s with h := h' }) := by
        split at hev <;> cases hev
        · exact ⟨_, _, by assumption, rfl⟩
        · exact ⟨_, _, by assumption, rfl⟩
      rw [hc] at hcall
      obtain ⟨hfi, hcs⟩ := (call_ok hR.fn).ok _ _ _ _ _ hcall
      have hres : ∀ ρ : Operand → Value, ρ (.func f) = .func (.func f) #[] #[] → (resolve ρ cc o.type).run P w = .ok { target := .fn (.func f) #[], args := cc.args.map ρ } w := fun ρ hρ => by
        simp [resolve, hcal, hρ, Deferred.ofValue]
      refine wpIn_call (f := f) (vs := (cc.args.toList.map a.eval).toArray) hnd (fun f' hf' => ?_) ?_ (CallsIn.monoE (hcs C K w _ (m - 1) hC hs hargs) (behind hr))
      · simp only [Oper.about, hop, hres a.eval rfl, Target.leads, Option.some.injEq] at hf'
        rw [← hf']; exact fn_some hfi
      · simp only [execOp, hop, Sem.run_bind, hres a.eval rfl, Result.andThen_ok, invoke, Array.append_empty]
        rw [← Array.toList_map, Array.toArray_toList]
        exact fn_run hfi _ w
    · -- a function value
      rename_i x hnf hcal
      split at hq <;> try (cases hq; done)
      simp only [Option.bind_eq_some_iff, Option.map_eq_some_iff] at hq
      obtain ⟨x', hx, xs, hxs, rfl⟩ := hq
      have hargs := mapM_rd hf.fr hs _ _ hxs
      have hdx := hf.fr.rd hs hx
      rw [← hpgl] at hargs hdx
      have hnd : ∀ c', o.op ≠ .defer c' := fun c' => by rw [hop]; intro x; cases x
      obtain ⟨v, hv⟩ : ∃ v, a.eval x = v := ⟨_, rfl⟩
      rw [hv] at hdx
      simp only [Cl.ev] at hev
      split at hev <;> try (cases hev; done)
      · rename_i f fs cs hrd
        rw [hrd] at hdx
        cases hdx with
        | fn _ us ws _ _ hus hws =>
          obtain ⟨out, h', hcall, hr⟩ : ∃ out h', call c.pg R f ((fs ++ xs.map (rd c.pg.gl s.e)) ++ cs) s.h = some (out, h') ∧ (match out with | .ret d => r = .ok d { s with h := h' } | .pan d => r = .pan d { s with h := h' }) := by
            split at hev <;> cases hev
            · exact ⟨_, _, by assumption, rfl⟩
            · exact ⟨_, _, by assumption, rfl⟩
          rw [hc] at hcall
          obtain ⟨hfi, hcs⟩ := (call_ok hR.fn).ok _ _ _ _ _ hcall
          rw [hc] at hargs
          have hres : (resolve a.eval cc o.type).run P w = .ok { target := .fn (.func f) ws.toArray, args := us.toArray ++ cc.args.map a.eval } w := by
            simp [resolve, hcal, hv, Deferred.ofValue]
          refine wpIn_call (f := f) (vs := ((us ++ cc.args.toList.map a.eval) ++ ws).toArray) hnd (fun f' hf' => ?_) ?_ (CallsIn.monoE (hcs C K w _ (m - 1) hC hs ((hus.append hargs).append hws)) (behind hr))
          · simp only [Oper.about, hop, hres, Target.leads, Option.some.injEq] at hf'
            rw [← hf']; exact fn_some hfi
          · simp only [execOp, hop, Sem.run_bind, hres, Result.andThen_ok, invoke]
            have e1 : us.toArray ++ cc.args.map a.eval ++ ws.toArray = ((us ++ cc.args.toList.map a.eval) ++ ws).toArray := by
              apply Array.ext'; simp
            rw [e1]
            exact fn_run hfi _ w
      · rename_i k hrd
        rw [hrd] at hdx
        cases hdx with
        | yld _ b z hb =>
          obtain ⟨out, h', hcall, hr⟩ : ∃ out h', R.yl k (xs.map (rd c.pg.gl s.e)) s.h = some (out, h') ∧ (match out with | .ret d => r = .ok d { s with h := h' } | .pan d => r = .pan d { s with h := h' }) := by
            split at hev <;> cases hev
            · exact ⟨_, _, by assumption, rfl⟩
            · exact ⟨_, _, by assumption, rfl⟩
          obtain ⟨fn, tmps, as, bd, hy, hround⟩ := hR.yl _ _ _ _ _ hcall C K w _ b z hC hs hb hargs
          have hres : (resolve a.eval cc o.type).run P w = .ok { target := .fn (.yield b) #[], args := cc.args.map a.eval } w := by
            simp [resolve, hcal, hv, Deferred.ofValue]
          refine wpIn_round hnd ?_ ?_ ((hround (m - 1)).mono (behind hr))
          · simp [Oper.about, hop, hres, Target.leads]
          · simp only [execOp, hop, Sem.run_bind, hres, Result.andThen_ok, invoke]
            rw [← Array.toList_map, Array.toArray_toList] at hy
            exact hy
    · -- recover
      cases hq
      simp [Cl.ev] at hev
    · cases hq
  · -- a deferred call
    rename_i cc hop
    split at hq
    · rename_i x hcal
      simp only [Option.bind_eq_some_iff, Option.map_eq_some_iff] at hq
      obtain ⟨x', hx, xs, hxs, rfl⟩ := hq
      have hargs := mapM_rd hf.fr hs _ _ hxs
      have hdx := hf.fr.rd hs hx
      rw [← hpgl] at hargs hdx
      simp only [Cl.ev] at hev
      split at hev <;> cases hev
      rename_i f fs cs hr hrd
      rw [hrd] at hdx
      obtain ⟨v, hv⟩ : ∃ v, a.eval x = v := ⟨_, rfl⟩
      rw [hv] at hdx
      have hrb0 : rb = none := by cases rb with | none => rfl | some b => rw [hr] at hrb; exact hrb.elim
      subst hrb0
      cases hdx with
      | fn _ us ws _ _ hus hws =>
        refine ⟨fun f' hf' => by simp [Oper.about, hop] at hf', ?_⟩
        rw [show (Fe P none).round = none from rfl, Oper.semAt_none]
        have hrun : (execOp a.eval o).run P w = .ok (.defer { target := .fn (.func f) ws.toArray, args := us.toArray ++ (cc.args.toList.map a.eval).toArray }) w := by
          simp [execOp, hop, resolve, hcal, hv, Deferred.ofValue]
        rw [hrun]
        refine kn _ _ rfl K _ w (.refl K) hs ⟨?_, ?_⟩
        · have := hf.fr.put o.dst (Den.junk (S := K) undef)
          cases hd : o.dst <;> rw [hd] at this <;> exact ⟨this.size, this.len, this.slots⟩
        · have : DfRel K (.call (.fn (.func f) fs cs) (xs.map (rd c.pg.gl s.e)) :: s.df) ({ target := .fn (.func f) ws.toArray, args := us.toArray ++ (cc.args.toList.map a.eval).toArray } :: a.defers) := .call f us _ ws fs _ cs _ _ hus hargs hws hf.df
          cases hd : o.dst <;> exact this
    · cases hq
  · -- a panic
    rename_i x hop
    simp only [Option.map_eq_some_iff] at hq
    obtain ⟨x', hx, rfl⟩ := hq
    have hdx := hf.fr.rd hs hx
    rw [← hpgl] at hdx
    simp only [Cl.ev] at hev
    split at hev <;> try (cases hev; done)
    rename_i t d hrd
    cases hev
    rw [hrd] at hdx
    obtain ⟨v, hv⟩ : ∃ v, a.eval x = v := ⟨_, rfl⟩
    rw [hv] at hdx
    have hpl : opPlain o.op = true := by rw [hop]; rfl
    refine ⟨fun f hf => (by rw [plain_about hpl] at hf; cases hf), ?_⟩
    rw [Oper.semAt_plain _ _ _ (plain_defer hpl)]
    cases hdx with
    | iface _ u _ hu =>
      have hrun : (execOp a.eval o).run P w = .halt (.panic (.iface t u)) w := by
        simp [execOp, hop, hv, Instr.panic, goPanic, Sem.run]
      rw [hrun]
      exact kp _ _ rfl K a w _ (.refl K) hs hf (.pan _ _ (.iface _ _ _ hu))
  · cases hq
end
end Go.Em
