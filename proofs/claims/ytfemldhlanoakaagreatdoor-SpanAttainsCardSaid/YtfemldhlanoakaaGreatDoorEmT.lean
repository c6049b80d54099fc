/- A round of a loop over a function. -/
import Derived.Test.YtfemldhlanoakaaGreatDoorEmS
import Derived.RangeFuncIn
namespace Go.Em
open Go Go.RowKit

/-- What is asked at a round's end, panics among it. -/
def rndPost (P : Program) (l : Nat) (R : Ending → World → Prop) : Exit → Act → World → Prop
  | .panic ch, a, w => a.defers = [] ∧ R (.panicked ch) w
  | x, a, w => roundPost P l R x a w

theorem round_of_wp {F : Fence} {n : Nat} {P : Program} {l : Nat} {f : FuncId} {tmps : Array Value} {assign body : Code} {w : World} {R : Ending → World → Prop} (hF : F.fn f) (hf : (P.funcs[f]?).isSome = true)
    (h : assign.wpIn (F.inRound l) n P (Exit.then (fun a₁ w₁ => ∃ w₂, (Instr.beginRound l).run P w₁ = .ok () w₂ ∧ body.wpIn (F.inRound l) n P (rndPost P l R) a₁ w₂) (fun _ _ _ => False))
      { tmps := tmps, defers := [] } w) :
    RoundIn F n P l f tmps assign body w R := by
  refine ⟨hF, fun c cs hr => ?_⟩
  let b : Frame := { (default : Frame) with fn := f, kind := .normal, roundOf := some l }
  have hb0 : Frame.round l f tmps assign body .normal = b.atR { tmps := tmps, defers := [] } [.code assign, .beginRound, .code body] := by
    simp [Frame.round, Frame.atR, b]
  have hr' : (F.inRound l).room ((c :: cs).length + 1 + n) := hr
  have hF' : (F.inRound l).fn b.fn := hF
  obtain ⟨e, a₁, w₁, hq, harr⟩ := h b [.beginRound, .code body] (c :: cs) rfl hF' hr'
  rw [← hb0] at harr
  cases e with
  | normal =>
    obtain ⟨w₂, hbr, hbody⟩ := hq
    have s1 : StepsIn (Machine.fenced P (F.inRound l)) P (lone (b.atR a₁ [.beginRound, .code body]) (c :: cs) w₁) (lone (b.atR a₁ [.code body]) (c :: cs) w₂) :=
      .one (fenced_calm (fr := b.atR a₁ [.beginRound, .code body]) hF' hr' rfl) (stepR_beginRound rfl hbr)
    obtain ⟨e₂, a₂, w₃, hq₂, harr₂⟩ := hbody b [] (c :: cs) rfl hF' hr'
    cases e₂ with
    | normal =>
      obtain ⟨v, w₄, hend, hR⟩ := hq₂
      exact ⟨.returned v, w₄, hR, (StepsIn.trans harr s1).trans (StepsIn.trans harr₂ (.one (fenced_calm (fr := b.atR a₂ []) hF' hr' rfl) (stepR_round_end rfl rfl hend)))⟩
    | ret =>
      obtain ⟨v, w₄, hend, hR⟩ := hq₂
      obtain ⟨k₁, hs⟩ := harr₂.2 rfl
      exact ⟨.returned v, w₄, hR, (StepsIn.trans harr s1).trans (StepsIn.trans hs (.one (fenced_calm (fr := b.atR a₂ (.code .ret :: k₁)) hF' hr' rfl) (stepR_round_ret rfl rfl hend)))⟩
    | exit id =>
      obtain ⟨v, w₄, hend, hR⟩ := hq₂
      obtain ⟨k₁, hk, hs⟩ := harr₂.2 rfl rfl
      exact ⟨.returned v, w₄, hR, (StepsIn.trans harr s1).trans (StepsIn.trans hs (.one (fenced_calm (fr := b.atR a₂ (.code (.exit id) :: k₁)) hF' hr' rfl) (stepR_round_exit rfl rfl hk hend)))⟩
    | goto t =>
      obtain ⟨v, w₄, hend, hR⟩ := hq₂
      obtain ⟨k₁, hk, hs⟩ := harr₂.2 rfl rfl
      exact ⟨.returned v, w₄, hR, (StepsIn.trans harr s1).trans (StepsIn.trans hs (.one (fenced_calm (fr := b.atR a₂ (.code (.goto t) :: k₁)) hF' hr' rfl) (stepR_round_goto rfl rfl hk hend)))⟩
    | panic chain =>
      obtain ⟨hd, hR⟩ := hq₂
      obtain ⟨todo, hs⟩ := harr₂
      obtain ⟨fn, hfn⟩ := Option.isSome_iff_exists.1 hf
      have hleave : ({ b.atR a₂ todo with mode := .panicking chain } : Frame).leaving P w₃ (.panicked chain) := ⟨rfl, hd, fn, hfn⟩
      have hl : (lone { b.atR a₂ todo with mode := .panicking chain } (c :: cs) w₃).fenced P (F.inRound l) := fenced_leaving (n := n) hF' hr' hleave
      exact ⟨.panicked chain, w₃, hR, (StepsIn.trans harr s1).trans (StepsIn.trans hs (.one hl (step_leave_panicked hleave)))⟩
    | outgrown => exact hq₂.elim
  | exit id => exact hq.elim
  | goto t => exact hq.elim
  | ret => exact hq.elim
  | panic chain => exact hq.elim
  | outgrown => exact hq.elim

theorem foldl_zip (ps : Array Tmp) (vs : List Value) (t : Array Value) : (ps.zip vs.toArray).foldl (fun tmps p => tmps.setIfInBounds p.1 p.2) t = (ps.toList.zip vs).foldl (fun tmps p => tmps.setIfInBounds p.1 p.2) t := by
  rw [← Array.foldl_toList, Array.toList_zip]

theorem params_fr {K : Ctx} {N : Nat} : ∀ (ps : List Tmp) (vs : List Value) (ds : List D) (e : List D) (t : Array Value), DenL K vs ds → Fr K N e { tmps := t, defers := [] } →
    Fr K N ((ps.zip ds).foldl (fun e p => e.set p.1 p.2) e) { tmps := (ps.zip vs).foldl (fun tmps p => tmps.setIfInBounds p.1 p.2) t, defers := [] }
  | [], vs, ds, e, t, hd, hf => hf
  | p :: ps, [], [], e, t, hd, hf => hf
  | p :: ps, v :: vs, d :: ds, e, t, .cons _ _ _ _ h1 h2, hf => by
    simp only [List.zip_cons_cons, List.foldl_cons]
    refine params_fr ps vs ds _ _ h2 ?_
    exact hf.put (some p) h1

theorem DfRel.nil_inv {K : Ctx} {df : List Df} {ds : List Deferred} (h : DfRel K df ds) (he : df.isEmpty = true) : ds = [] := by
  cases h with
  | nil => rfl
  | mark => simp at he
  | call => simp at he

section
variable {P : Program} {pg : Pg} {n : Nat} {R : Rc}

theorem yl_sound (hR : RSound P pg n R) (k : Nat) (args : List D) (h : Heap) (out : Out) (h' : Heap) (hq : yieldEv pg R k args h = some (out, h')) (C : Cx) (K : Ctx) (w : World) (vs : List Value) (b z : Nat) (hC : IsC P pg C) (hs : Sim C K h w) (hb : K.loc k = some (b, z)) (hd : DenL K vs args) :
    ∃ fn tmps as bd, (Instr.yield b vs.toArray).run P w = .ok (.round b fn tmps as bd) w ∧ ∀ m, RoundIn (Fe P none) m P b fn tmps as bd w fun e w' => ∃ K', K.le K' ∧ Sim C K' h' w' ∧ OutRel K' out e := by
  unfold yieldEv at hq
  split at hq <;> try (cases hq; done)
  rename_i q hk
  split at hq <;> try (cases hq; done)
  rename_i hcond
  obtain ⟨hlen, hready⟩ := hcond
  obtain ⟨b', n', O, i1, i2, i3, ⟨fn, tmps, as, bd, dnb, z0, rfl, g1, g2, g3, g4, g5, g6, g7⟩, i5⟩ := hs.live _ _ hk
  rw [hb] at i1; cases i1
  rw [hC.hofc] at g1 g2 g3
  have hvl : vs.toArray.size = q.ps.toArray.size := by simp [hd.length, hlen]
  refine ⟨fn, _, as, bd, run_yield i3 hvl, fun m => round_of_wp g1 g1 ?_⟩
  have hfz : (q.ps.toArray.zip vs.toArray).foldl (fun tmps (t, a) => tmps.setIfInBounds t a) tmps = (q.ps.zip vs).foldl (fun tmps p => tmps.setIfInBounds p.1 p.2) tmps := foldl_zip q.ps.toArray vs tmps
  rw [hfz]
  split at hq <;> try (cases hq; done)
  rename_i s1 hev1
  have hfr0 : Fr K q.e.length q.e { tmps := tmps, defers := [] } := ⟨g4, rfl, g5⟩
  have hf0 : Fd K q.e.length { e := (q.ps.zip args).foldl (fun e p => e.set p.1 p.2) q.e, h, df := [] } { tmps := (q.ps.zip vs).foldl (fun tmps p => tmps.setIfInBounds p.1 p.2) tmps, defers := [] } := ⟨params_fr _ _ _ _ _ hd hfr0, .nil⟩
  refine code_sound hR as q.as ⟨pg, q.e.length, some k⟩ rfl g2 _ _ _ hev1 C K _ w (some b) m _ hC ⟨_, hb⟩ hs hf0 fun K1 a1 w1 ex l1 s1' f1 x1 => ?_
  cases x1
  split at hq <;> try (cases hq; done)
  rename_i q1 hk1
  split at hq <;> try (cases hq; done)
  rename_i hcond1
  obtain ⟨hready1, hdf1⟩ := hcond1
  have hb1 := l1.loc _ _ hb
  obtain ⟨b', n', O, i1, i2, i3, ⟨fn1, tmps1, as1, bd1, dnb1, z1, rfl, e1, e2, e3, e4, e5, e6, e7⟩, i5⟩ := s1'.live _ _ hk1
  rw [hb1] at i1; cases i1
  refine ⟨_, run_beginRound i3 hready1, ?_⟩
  have hlt : b < w1.heap.size := (Array.getElem?_eq_some_iff.1 i3).1
  have s2 := s1'.turn (B := .loop { q1 with st := .busy }) hk1 hb1 (putObj_grown (w := w1) (b := b) (.loop { state := .busy, pending := q1.pe.code, fn := fn1, tmps := tmps1, params := q1.ps.toArray, assign := as1, body := bd1, defers := dnb1 })) (World.putObj_heap_same hlt)
    (show BlkRel C.ofc _ _ _ (.loop _) from ⟨fn1, tmps1, as1, bd1, dnb1, z1, rfl, e1, e2, e3, e4, e5, e6, e7⟩)
  split at hq <;> try (cases hq; done)
  rename_i x s3 hev2
  have ha1 : a1.defers = [] := f1.df.nil_inv hdf1
  refine code_sound hR bd q.bd ⟨pg, q.e.length, some k⟩ rfl g3 _ _ _ hev2 C K1 _ _ (some b) m _ hC ⟨_, hb1⟩ s2 (f1.env _) fun K3 a3 w3 ex l3 s3' f3 x3 => ?_
  have nil3 : s3.df.isEmpty = true → a3.defers = [] := fun he => f3.df.nil_inv he
  have hb3 := l3.loc _ _ hb1
  have fin : ∀ x : Ex, (match s3.h.get k with
      | some (.loop q2) => if s3.df.isEmpty then some (Out.ret (.val (.bool x.code.isNone)), s3.h.set k (some (.loop { q2 with st := if x.code.isNone then .ready else .done, pe := x }))) else none
      | _ => none) = some (out, h') → ∃ v w', (Instr.endRound b x.code).run P w3 = .ok v w' ∧ ∃ K', K.le K' ∧ Sim C K' h' w' ∧ OutRel K' out (.returned v) := fun x hq => by
    split at hq <;> try (cases hq; done)
    rename_i q2 hk2
    split at hq <;> try (cases hq; done)
    cases hq
    obtain ⟨b', n', O, i1, i2, i3, ⟨fn2, tmps2, as2, bd2, dnb2, z2, rfl, e1, e2, e3, e4, e5, e6, e7⟩, i5⟩ := s3'.live _ _ hk2
    rw [hb3] at i1; cases i1
    have hlt : b < w3.heap.size := (Array.getElem?_eq_some_iff.1 i3).1
    refine ⟨_, _, run_endRound x.code i3, K3, l1.trans l3, ?_, .ret _ _ (Den.val (.bool _) rfl)⟩
    exact s3'.turn (B := .loop { q2 with st := if x.code.isNone then .ready else .done, pe := x }) hk2 hb3 (putObj_grown (w := w3) (b := b) _) (World.putObj_heap_same hlt)
      (show BlkRel C.ofc _ _ _ (.loop _) from ⟨fn2, tmps2, as2, bd2, dnb2, z2, rfl, e1, e2, e3, e4, e5, e6, e7⟩)
  cases x3 with
  | normal => exact fin .normal hq
  | exit id => exact fin (.exit id) hq
  | ret => exact fin .ret hq
  | pan d v hv =>
    simp only at hq
    split at hq <;> try (cases hq; done)
    rename_i hdf
    simp only [Option.some.injEq, Prod.mk.injEq] at hq
    obtain ⟨rfl, rfl⟩ := hq
    exact ⟨nil3 hdf, K3, l1.trans l3, s3', .pan _ _ hv⟩
end
end Go.Em
