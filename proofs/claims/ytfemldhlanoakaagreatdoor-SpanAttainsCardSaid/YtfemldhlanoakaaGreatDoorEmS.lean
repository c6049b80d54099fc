/- Functions do what the evaluator says. -/
import Derived.Test.YtfemldhlanoakaaGreatDoorEmR
namespace Go.Em
open Go Go.RowKit

/-- A result variable with its shape. -/
def rsOf (P : Program) : List ResultVar → Option (List (ResultVar × Bool × Nat))
  | [] => some []
  | .tmp t :: l => (rsOf P l).map fun rs => (.tmp t, false, 0) :: rs
  | .cell t ty :: l => (shapeOf P ty).bind fun q => (rsOf P l).map fun rs => (.cell t ty, q) :: rs
/-- A function's small code, with its frame's size and its results. -/
def codeOf (P : Program) (f : FuncId) : Option (Nat × List (ResultVar × Bool × Nat) × Cd) :=
  (P.funcs[f]?).bind fun fn => if fn.name = "runtime.NumGoroutine" then none else fn.body.bind fun c => (Cd.of P fn.ntmps c).bind fun m => (rsOf P fn.results.toList).map fun rs => (fn.ntmps, rs, m)
def PgOk (P : Program) (pg : Pg) : Prop := ∀ f fc, pg.code f = some fc → codeOf P f = some (fc.N, fc.rs, fc.code)

theorem PgOk.fn {P : Program} {pg : Pg} (h : PgOk P pg) {f : FuncId} {fc : FnCode} (hf : pg.code f = some fc) :
    ∃ fn c, P.funcs[f]? = some fn ∧ fn.body = some c ∧ FnIs P f ∧ fn.ntmps = fc.N ∧ Cd.of P fc.N c = some fc.code ∧ rsOf P fn.results.toList = some fc.rs := by
  have := h f fc hf
  simp only [codeOf, Option.bind_eq_some_iff] at this
  obtain ⟨fn, h1, this⟩ := this
  split at this
  · cases this
  · rename_i hn
    simp only [Option.bind_eq_some_iff, Option.map_eq_some_iff, Prod.mk.injEq] at this
    obtain ⟨c, h2, m, h3, rs, h4, h5, h6, h7⟩ := this
    subst h6 h7
    exact ⟨fn, c, h1, h2, ⟨fn, h1, by rw [h2]; simp, hn⟩, h5, by rw [← h5]; exact h3, h4⟩

def getRes (a : Act) : ResultVar → Sem Value
  | .tmp t => pure (a.tmps.getD t undef)
  | .cell c t => do loadVar t (← asAddr (a.tmps.getD c undef))

theorem Fr.any {K : Ctx} {N : Nat} {e : List D} {a : Act} (f : Fr K N e a) (t : Nat) : Den K (a.tmps.getD t undef) (e.getD t .junk) := by
  by_cases h : t < N
  · exact f.slots t h
  · have : e.getD t .junk = .junk := by
      rw [List.getD_eq_getElem?_getD, List.getElem?_eq_none (by rw [f.len]; omega)]; rfl
    rw [this]; exact .junk _

section
variable {P : Program} {C : Cx} {K : Ctx} {h : Heap} {w : World} {N : Nat} {e : List D} {a : Act}

theorem run_resL (s : Sim C K h w) (f : Fr K N e a) : ∀ (l : List ResultVar) (rs : List (ResultVar × Bool × Nat)) (ds : List D), rsOf P l = some rs → resL h e rs = some ds → ∃ vs, (l.mapM (getRes a)).run P w = .ok vs w ∧ DenL K vs ds
  | [], rs, ds, hr, hd => by
    simp only [rsOf, Option.some.injEq] at hr
    subst hr
    simp only [resL, Option.some.injEq] at hd
    subst hd
    exact ⟨[], rfl, .nil⟩
  | r :: l, rs, ds, hr, hd => by
    have key : ∃ q rs', rsOf P l = some rs' ∧ rs = (r, q) :: rs' ∧ (∀ t ty, r = .cell t ty → shapeOf P ty = some q) := by
      cases r with
      | tmp t =>
        simp only [rsOf, Option.map_eq_some_iff] at hr
        obtain ⟨rs', h1, rfl⟩ := hr
        exact ⟨_, rs', h1, rfl, fun t ty x => by cases x⟩
      | cell t ty =>
        simp only [rsOf, Option.bind_eq_some_iff, Option.map_eq_some_iff] at hr
        obtain ⟨q, h1, rs', h2, rfl⟩ := hr
        exact ⟨q, rs', h2, rfl, fun t ty x => by cases x; exact h1⟩
    obtain ⟨q, rs', h1, rfl, h2⟩ := key
    simp only [resL] at hd
    split at hd <;> cases hd
    rename_i d ds' hd1 hd2
    obtain ⟨vs, hvs, hdvs⟩ := run_resL s f l rs' ds' h1 hd2
    have one : ∃ v, (getRes a r).run P w = .ok v w ∧ Den K v d := by
      cases r with
      | tmp t =>
        simp only [resD, Option.some.injEq] at hd1
        subst hd1
        exact ⟨_, rfl, f.any t⟩
      | cell t ty =>
        obtain ⟨ag, m⟩ := q
        have hsh := h2 t ty rfl
        have hsl := f.any t
        simp only [resD] at hd1
        split at hd1 <;> try (cases hd1; done)
        rename_i k o hk
        split at hd1 <;> try (cases hd1; done)
        rename_i ty' cs hg
        split at hd1 <;> cases hd1
        rename_i hle
        rw [hk] at hsl
        obtain ⟨b, n, hl, hv⟩ := hsl.ptr_inv
        obtain ⟨_, us, vs, g1, g2, g3, g4⟩ := s.block hg hl
        obtain ⟨u, hu, hdu⟩ := run_ld (P := P) (w := w) (b := b) (o := o) hsh (g2.drop o) (by rw [List.length_drop]; omega) (fun i v hi => by
          rw [List.getElem?_drop] at hi; exact cell_of_block g1 hi)
        refine ⟨u, by simp [getRes, hv, asAddr, hu], ?_⟩
        cases ag
        · simpa [List.getD] using hdu
        · simpa using hdu
    obtain ⟨v, hv, hdv⟩ := one
    refine ⟨v :: vs, ?_, .cons _ _ _ _ hdv hdvs⟩
    rw [List.mapM_cons, Sem.run_bind, hv, Result.andThen_ok, Sem.run_bind, hvs, Result.andThen_ok]
    rfl

theorem run_results (s : Sim C K h w) (f : Fr K N e a) {fn : Func} {rs : List (ResultVar × Bool × Nat)} {ds : List D} (hr : rsOf P fn.results.toList = some rs) (hd : resL h e rs = some ds) : ∃ v, (results fn a.tmps).run P w = .ok v w ∧ Den K v (packD ds) := by
  obtain ⟨vs, hvs, hden⟩ := run_resL (P := P) s f _ _ _ hr hd
  have hl := hden.length
  have hres : results fn a.tmps = (fn.results.mapM (getRes a) >>= fun vs => pure (if h : vs.size = 1 then vs[0] else .tuple vs)) := rfl
  rw [hres, Array.mapM_eq_mapM_toList]
  simp only [Sem.run_bind, Sem.run_map]
  rw [hvs]
  simp only [Result.andThen_ok, Sem.run_pure]
  match vs, ds, hden, hl with
  | [], [], _, _ => exact ⟨_, rfl, by simpa [packD] using Den.tup [] [] .nil⟩
  | [v], [d], .cons _ _ _ _ k _, _ => exact ⟨_, rfl, by simpa [packD] using k⟩
  | v :: v' :: vs, d :: d' :: ds, hden, _ => exact ⟨_, rfl, by simpa [packD] using Den.tup _ _ hden⟩

/-- A block is given up, and its memory turned. -/
theorem Sim.gone (s : Sim C K h w) {w' : World} {k : Nat} {B0 : Blk} (hk : h.get k = some B0) {b n : Nat} (hl : K.loc k = some (b, n)) (hw : w.grownBy w' (some b)) : Sim C K (h.set k none) w' := by
  obtain ⟨b', n', O', i1, i2, i3, i4, i5⟩ := s.live k B0 hk
  rw [hl] at i1; cases i1
  have hbel : Below C.w0.heap.size w w' := ⟨hw.os, hw.tape, hw.output, hw.size, fun j hj => hw.block j (Nat.lt_of_lt_of_le hj s.below.size) (fun e => by cases e; omega)⟩
  have get : ∀ j B1, (h.set k none).get j = some B1 → j ≠ k ∧ h.get j = some B1 := fun j B1 x => by
    by_cases hj : j = k
    · subst hj; rw [Heap.get_set_same] at x; cases x
    · rw [Heap.get_set_ne _ _ hj] at x; exact ⟨hj, x⟩
  refine s.step b (.refl K) rfl rfl hbel (fun j hj hne => hw.block j hj (fun e => hne (Option.some.inj e))) i5 i2 (fun j B' x => ?_) (fun j j' B1 B2 n1 n2 x x' y y' => ?_) (fun j x => ?_)
  · obtain ⟨h1, h2⟩ := get j B' x
    obtain ⟨b2, m, _, j1, _⟩ := s.live j B' h2
    exact .inl ⟨h2, b2, m, j1, fun e => by subst e; exact h1 (s.inj j k B' B0 b2 m n h2 hk j1 hl)⟩
  · obtain ⟨h1, h2⟩ := get j B1 x
    exact absurd (s.inj j k B1 B0 b n1 n h2 hk y hl) h1
  · by_cases hj : j = k
    · subst hj; rw [Heap.raw_set_same] at x; cases x
    · rw [Heap.raw_set_ne _ _ hj] at x; exact s.fresh j x

theorem start_fd {fc : FnCode} {args : List D} {vs : List Value} (hd : DenL K vs args) (hl : args.length ≤ fc.N) (h : Heap) : Fd K fc.N (fc.start args h) { tmps := vs.toArray ++ Array.replicate (fc.N - vs.length) undef, defers := [] } := by
  have hlen := hd.length
  refine ⟨⟨by simp; omega, by simp [FnCode.start]; omega, fun t ht => ?_⟩, .nil⟩
  simp only [FnCode.start, List.getD_eq_getElem?_getD, Array.getD_eq_getD_getElem?]
  by_cases hlt : t < args.length
  · have hlt' : t < vs.length := by omega
    rw [List.getElem?_append_left hlt, Array.getElem?_append_left (by simpa using hlt')]
    obtain ⟨v, hv, hdv⟩ := hd.get (List.getElem?_eq_getElem hlt)
    simp only [List.getElem?_toArray, hv, List.getElem?_eq_getElem hlt, Option.getD_some]
    exact hdv
  · rw [List.getElem?_append_right (by omega)]
    have : (List.replicate (fc.N - args.length) D.junk)[t - args.length]?.getD .junk = .junk := by
      rw [List.getElem?_replicate]; split <;> rfl
    rw [this]; exact .junk _
end

section
variable {P : Program} {pg : Pg} {n : Nat} {R : Rc}

theorem URel.run {K : Ctx} {p : Option D} {u : FrameMode} (h : URel K p u) : u ≠ .run := by cases h <;> simp

theorem leave_sound (hR : RSound P pg n R) {m : Nat} {fn : Func} {tmps : Array Value} {RR : Ending → World → Prop} {C : Cx} (hC : IsC P pg C) : ∀ (df : List Df) (p : Option D) (h : Heap) (p' : Option D) (h' : Heap), leave R df p h = some (p', h') →
    ∀ (K : Ctx) (w : World) (ds : List Deferred) (u : FrameMode), Sim C K h w → DfRel K df ds → URel K p u → (∀ (K' : Ctx) (w' : World) (u' : FrameMode), K.le K' → Sim C K' h' w' → URel K' p' u' → LeavesInM (Fe P none) m P fn tmps RR [] u' w') →
    LeavesInM (Fe P none) m P fn tmps RR ds u w
  | [], p, h, p', h', hl, K, w, ds, u, hs, hdf, hu, k => by
    simp only [leave, Option.some.injEq, Prod.mk.injEq] at hl
    obtain ⟨rfl, rfl⟩ := hl
    cases hdf
    exact k K w u (.refl K) hs hu
  | .mark j :: l, p, h, p', h', hl, K, w, ds, u, hs, hdf, hu, k => by
    simp only [leave] at hl
    split at hl <;> try (cases hl; done)
    rename_i hj
    cases hdf with
    | mark _ b z _ ds hb hdf =>
      obtain ⟨b', n', O, i1, i2, i3, i4, i5⟩ := hs.live _ _ hj
      rw [hb] at i1; cases i1
      have i4' : O = .deferred (some []) := i4
      subst i4'
      refine ⟨hu.run, .inl ⟨b, w.putObj b (.deferred none), rfl, run_takeDeferred i3, ?_⟩⟩
      exact leave_sound hR hC l p _ p' h' hl K _ ds u (hs.gone hj hb (putObj_grown _)) hdf hu k
  | .call f args :: l, p, h, p', h', hl, K, w, ds, u, hs, hdf, hu, k => by
    cases hdf with
    | call f us vs ws fs _ caps _ ds hus hvs hws hdf =>
      simp only [leave] at hl
      split at hl <;> try (cases hl; done)
      rename_i p1 h1 hd
      obtain ⟨hfi, hcs⟩ := hR.df _ _ _ _ _ _ hd
      refine ⟨hu.run, .inr ⟨fun h => by simp [Fe] at h, .func f, ws.toArray, f, ((us ++ vs) ++ ws).toArray, rfl, ?_, fun g hg => ?_, ?_⟩⟩
      · have e1 : us.toArray ++ vs.toArray ++ ws.toArray = ((us ++ vs) ++ ws).toArray := by apply Array.ext'; simp
        simp only [invoke, e1]
        exact fn_run hfi _ w
      · simp only [Target.leads, Option.some.injEq] at hg
        rw [← hg]; exact fn_some hfi
      · refine CallsDIn.mono (hcs C K w _ u (m - 1) hC hs ((hus.append hvs).append hws) hu) ?_
        rintro e u' w' ⟨v, K', rfl, j1, j2, j3⟩
        exact leave_sound hR hC l p1 h1 p' h' hl K' w' ds (settle u') j2 (hdf.mono j1) j3 fun K2 w2 u2 q1 q2 q3 => k K2 w2 u2 (j1.trans q1) q2 q3

theorem fn_sound (hP : PgOk P pg) (hR : RSound P pg n R) : FnS P pg (fnBody pg R) := by
  refine ⟨fun f args h out h' hq => ?_⟩
  unfold fnBody at hq
  split at hq <;> try (cases hq; done)
  rename_i fc hfc
  split at hq <;> try (cases hq; done)
  rename_i hlen
  obtain ⟨fn, cc, h1, h2, h3, h4, h5, h6⟩ := hP.fn hfc
  refine ⟨h3, fun C K w vs m hC hs hd => ?_⟩
  refine callsIn_of_wp_marks h1 h2 (by show (P.funcs[f]?).isSome = true; rw [h1]; rfl) ?_
  rw [h4, show vs.toArray.size = vs.length by simp]
  have hfd := start_fd (fc := fc) hd hlen h
  -- what follows behind the body
  have fin : ∀ (p : Option D) (s1 : St), finish R fc.rs p s1 = some (out, h') → ∀ (K1 : Ctx) (a1 : Act) (w1 : World) (u : FrameMode), K.le K1 → Sim C K1 s1.h w1 → Fd K1 fc.N s1 a1 → URel K1 p u →
      LeavesInM (Fe P none) m P fn a1.tmps (fun e w' => ∃ K', K.le K' ∧ Sim C K' h' w' ∧ OutRel K' out e) a1.defers u w1 := by
    intro p s1 hfin K1 a1 w1 u hle hs1 hf1 hu
    unfold finish at hfin
    split at hfin <;> try (cases hfin; done)
    · rename_i h2' hl
      simp only [Option.map_eq_some_iff, Prod.mk.injEq] at hfin
      obtain ⟨ds, hres, rfl, rfl⟩ := hfin
      refine leave_sound hR hC _ _ _ _ _ hl K1 w1 _ u hs1 hf1.df hu fun K2 w2 u2 q1 q2 q3 => ?_
      cases q3
      obtain ⟨v, hv, hdv⟩ := run_results (P := P) q2 (hf1.fr.mono q1) h6 hres
      exact ⟨v, hv, K2, hle.trans q1, q2, .ret _ _ hdv⟩
    · rename_i d h2' hl
      simp only [Option.some.injEq, Prod.mk.injEq] at hfin
      obtain ⟨rfl, rfl⟩ := hfin
      refine leave_sound hR hC _ _ _ _ _ hl K1 w1 _ u hs1 hf1.df hu fun K2 w2 u2 q1 q2 q3 => ?_
      cases q3 with
      | some _ v hv => exact ⟨K2, hle.trans q1, q2, .pan _ _ hv⟩
  split at hq <;> try (cases hq; done)
  · rename_i s1 hev
    exact code_sound hR cc fc.code ⟨pg, fc.N, none⟩ rfl h5 _ _ _ hev C K _ w none m _ hC trivial hs hfd fun K1 a1 w1 ex q1 q2 q3 q4 => by
      cases q4; exact fin none s1 hq K1 a1 w1 .returning q1 q2 q3 .none
  · rename_i s1 hev
    exact code_sound hR cc fc.code ⟨pg, fc.N, none⟩ rfl h5 _ _ _ hev C K _ w none m _ hC trivial hs hfd fun K1 a1 w1 ex q1 q2 q3 q4 => by
      cases q4; exact fin none s1 hq K1 a1 w1 .returning q1 q2 q3 .none
  · rename_i d s1 hev
    exact code_sound hR cc fc.code ⟨pg, fc.N, none⟩ rfl h5 _ _ _ hev C K _ w none m _ hC trivial hs hfd fun K1 a1 w1 ex q1 q2 q3 q4 => by
      cases q4 with | pan _ v hv => exact fin (some d) s1 hq K1 a1 w1 _ q1 q2 q3 (.some _ _ hv)

theorem lp_sound (hR : RSound P pg n R) (c : Cfg) (cd : Cd) (s : St) (x : Ex) (s' : St) (hq : lpBody R c cd s = some (x, s')) (code : Code) (hc : c.pg = pg) (hcd : Cd.of P c.N code = some cd) (C : Cx) (K : Ctx) (a : Act) (w : World) (rb : Option Nat) (m : Nat) (QQ : Exit → Act → World → Prop)
    (hC : IsC P pg C) (hrb : RndOk K c.r rb) (hs : Sim C K s.h w) (hf : Fd K c.N s a) (hp : Post C K c.N x s' QQ) : Code.roundsIn (Fe P rb) m P code QQ (n + 1) a w := by
  unfold lpBody at hq
  rw [roundsIn_succ]
  cases hu1 : cd.ev c R s with
  | none => rw [hu1] at hq; cases hq
  | some r =>
    obtain ⟨x1, s1⟩ := r
    rw [hu1] at hq
    refine code_sound hR code cd c hc hcd s x1 s1 hu1 C K a w rb m _ hC hrb hs hf fun K' a' w' ex h1 h2 h3 h4 => ?_
    cases x1 with
    | normal =>
      cases h4
      exact hR.lp c cd s1 x s' hq code hc hcd C K' a' w' rb m QQ hC (hrb.mono h1) h2 h3 (hp.mono h1)
    | exit id => cases hq; cases h4; exact hp K' a' w' _ h1 h2 h3 (.exit id)
    | ret => cases hq; cases h4; exact hp K' a' w' _ h1 h2 h3 .ret
    | pan d => cases hq; cases h4 with | pan _ v hv => exact hp K' a' w' _ h1 h2 h3 (.pan d v hv)
end
end Go.Em
