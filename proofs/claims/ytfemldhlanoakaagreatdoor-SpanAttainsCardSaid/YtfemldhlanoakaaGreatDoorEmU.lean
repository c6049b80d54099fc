/- Deferred calls, which may recover. -/
import Derived.Test.YtfemldhlanoakaaGreatDoorEmT
import Derived.RecoverIn
namespace Go.Em
open Go Go.RowKit

/-- How the frame that leaves stands while its deferred call runs. -/
inductive WRel (K : Ctx) : Option D → FrameMode → Prop
  | none : WRel K none .returning
  | done (v : Value) : WRel K none (.panicking [{ v, recovered := true }])
  | some (d : D) (v : Value) : Den K v d → WRel K (some d) (.panicking [{ v, recovered := false }])
theorem WRel.mono {K K' : Ctx} (hle : K.le K') {p : Option D} {u : FrameMode} (h : WRel K p u) : WRel K' p u := by
  cases h with
  | none => exact .none
  | done v => exact .done v
  | some d v hv => exact .some d v (hv.mono hle)
theorem URel.w {K : Ctx} {p : Option D} {u : FrameMode} (h : URel K p u) : WRel K p u := by
  cases h with
  | none => exact .none
  | some d v hv => exact .some d v hv
theorem WRel.settle {K : Ctx} {p : Option D} {u : FrameMode} (h : WRel K p u) : URel K p (settle u) := by
  cases h with
  | none => exact .none
  | done v => exact .none
  | some d v hv => exact .some d v hv

def PostS (C : Cx) (K : Ctx) (N : Nat) (x : Ex) (s' : St) (p' : Option D) (c0 : Frame) (cs : List Frame) (QQ : Exit → Act → List Frame → World → Prop) : Prop :=
  ∀ (K' : Ctx) (a' : Act) (w' : World) (ex : Exit) (u' : FrameMode), K.le K' → Sim C K' s'.h w' → Fd K' N s' a' → ExRel K' x ex → WRel K' p' u' → QQ ex a' ({ c0 with mode := u' } :: cs) w'
theorem PostS.mono {C : Cx} {K K1 : Ctx} {N : Nat} {x : Ex} {s' : St} {p' : Option D} {c0 : Frame} {cs : List Frame} {QQ : Exit → Act → List Frame → World → Prop} (h : PostS C K N x s' p' c0 cs QQ) (hle : K.le K1) : PostS C K1 N x s' p' c0 cs QQ :=
  fun K' a' w' ex u' h1 h2 h3 h4 h5 => h K' a' w' ex u' (hle.trans h1) h2 h3 h4 h5

section
variable {P : Program} {pg : Pg} {n : Nat} {R : Rc}

theorem Cl.of_rcv {N : Nat} {o : Oper} (h : Cl.of P N o = some .rcv) : ∃ cc, o.op = .call cc ∧ cc.callee = .builtin .recover := by
  unfold Cl.of at h
  split at h
  · rename_i cc hop
    split at h
    · split at h <;> try (cases h; done)
      simp only [Option.map_eq_some_iff] at h
      obtain ⟨_, _, h⟩ := h
      unfold mkCall at h
      split at h <;> cases h
    · split at h <;> try (cases h; done)
      simp only [Option.bind_eq_some_iff, Option.map_eq_some_iff] at h
      obtain ⟨_, _, _, _, h⟩ := h; cases h
    · rename_i hcal; exact ⟨cc, hop, hcal⟩
    · cases h
  · split at h
    · simp only [Option.bind_eq_some_iff, Option.map_eq_some_iff] at h
      obtain ⟨_, _, _, _, h⟩ := h; cases h
    · cases h
  · simp only [Option.map_eq_some_iff] at h
    obtain ⟨_, _, h⟩ := h; cases h
  · cases h

theorem gsS_sound {c : Cfg} (hc : c.pg = pg) {base : Nat} {ops : Array Oper} {C : Cx} (hC : IsC P pg C) {m : Nat} {c0 : Frame} {cs : List Frame} {QQ : Exit → Act → List Frame → World → Prop} : ∀ (l : List Oper) (i : Nat) (gs : List G), ops.toList.drop i = l → Gs.of P c.N ops l = some gs →
    ∀ (s : St) (p : Option D) (s' : St) (p' : Option D) (K : Ctx) (a : Act) (w : World) (u : FrameMode), runGS c R base gs s p = some (s', p') → Sim C K s.h w → Fd K c.N s a → WRel K p u → PostS C K c.N .normal s' p' c0 cs QQ →
      wpOpsSIn (Fe P none) m P ops QQ (List.range' i l.length) a ({ c0 with mode := u } :: cs) w
  | [], i, gs, hl, h, s, p, s', p', K, a, w, u, hq, hs, hf, hu, hp => by
    simp only [Gs.of, Option.some.injEq] at h
    subst h
    simp only [runGS, Option.some.injEq, Prod.mk.injEq] at hq
    obtain ⟨rfl, rfl⟩ := hq
    exact hp K a w .normal u (.refl K) hs hf .normal hu
  | o :: l, i, gs, hl, h, s, p, s', p', K, a, w, u, hq, hs, hf, hu, hp => by
    simp only [Gs.of, Option.bind_eq_some_iff, Option.some.injEq] at h
    obtain ⟨g, hg, gs', hgs, rfl⟩ := h
    obtain ⟨hgu, hgd, hgo⟩ := G.of_parts hg
    have hoi : ops[i]? = some o := by
      have : ops.toList[i]? = some o := by
        have := congrArg (·[0]?) hl
        simpa [List.getElem?_drop] using this
      simpa using this
    have hl' : ops.toList.drop (i + 1) = l := by
      have := congrArg (List.drop 1) hl
      simpa [List.drop_drop, Nat.add_comm] using this
    have next : ∀ (s1 : St) (p1 : Option D) (K1 : Ctx) (a1 : Act) (w1 : World) (u1 : FrameMode), runGS c R base gs' s1 p1 = some (s', p') → K.le K1 → Sim C K1 s1.h w1 → Fd K1 c.N s1 a1 → WRel K1 p1 u1 →
        wpOpsSIn (Fe P none) m P ops QQ (List.range' (i + 1) l.length) a1 ({ c0 with mode := u1 } :: cs) w1 := fun s1 p1 K1 a1 w1 u1 h1 h2 h3 h4 h5 =>
      gsS_sound hc hC l (i + 1) gs' hl' hgs s1 p1 s' p' K1 a1 w1 u1 h1 h3 h4 h5 (hp.mono h2)
    simp only [List.length_cons, List.range'_succ, wpOpsSIn, hoi]
    simp only [runGS] at hq
    split at hq <;> try (cases hq; done)
    · rename_i hw
      have hwant := guard_wanted (K := K) (a := a) hgu hf (d := g.d) (q := g.o) (b := true) hw
      rw [hwant, if_pos rfl]
      rcases hgo with ⟨mm, hm, hgo⟩ | ⟨q, hcl, hgo⟩
      · refine ⟨G.of_about hg (fun f => rfl) (.inr mm.2.1), ?_⟩
        rw [hgo] at hq
        simp only at hq
        split at hq <;> try (cases hq; done)
        rename_i d h1 hme
        rw [hc, ← hC.hpg] at hme
        rw [hgd] at hme hq
        obtain ⟨v, w', K', hd, hle, hs', hv⟩ := mm.2.2 C K s.h h1 w s.e a _ d hC.hP hs hf.fr hme
        have hfd : Fd K' c.N { s with e := put s.e o.dst d, h := h1 } (a.put o.dst v) := ⟨(hf.fr.mono hle).put o.dst hv, by have := hf.df.mono hle; cases hd : o.dst <;> exact this⟩
        have := next _ p K' _ w' u hq hle hs' hfd (hu.mono hle)
        cases hd with
        | value _ _ h => rw [h]; exact this
        | skip _ h => rw [h]; exact this
      · rw [hgo] at hq
        cases q with
        | rcv =>
          simp only at hq
          obtain ⟨cc, hop, hcal⟩ := Cl.of_rcv hcl
          have hpl : opPlain o.op = true := by rw [hop]; simp [opPlain, hcal]
          refine ⟨G.of_about hg (fun f => rfl) (.inr hpl), ?_⟩
          have hrun : (execOp a.eval o).run P w = .ok .recover w := by
            simp [execOp, hop, resolve, hcal, invoke]
            rfl
          rw [hrun]
          simp only [recoverD]
          rw [hgd] at hq
          have hfd : ∀ {v : Value} {d : D}, Den K v d → Fd K c.N { s with e := put s.e o.dst d } (a.put o.dst v) := fun hv => ⟨hf.fr.put o.dst hv, by have := hf.df; cases hd : o.dst <;> exact this⟩
          cases hu with
          | none => exact next _ none K _ w .returning hq (.refl K) hs (hfd (.val .nilIface rfl)) .none
          | done v => exact next _ none K _ w (.panicking [{ v, recovered := true }]) hq (.refl K) hs (hfd (.val .nilIface rfl)) (.done v)
          | some d v hv => exact next _ none K _ w (.panicking [{ v, recovered := true }]) hq (.refl K) hs (hfd hv) (.done v)
        | _ => simp only at hq; cases hq
    · rename_i hw
      have hwant := guard_wanted (K := K) (a := a) hgu hf (d := g.d) (q := g.o) (b := false) hw
      rw [hwant, if_neg (by simp)]
      have hgn : o.guard ≠ none := fun e => by
        rw [e] at hgu
        simp only [guardOf, Option.some.injEq] at hgu
        rw [G.want, ← hgu] at hw
        cases hw
      refine ⟨G.of_about hg (fun f => rfl) (.inl hgn), ?_⟩
      rw [hgd] at hq
      exact next _ p K _ w u hq (.refl K) hs (hf.skip o.dst) hu

theorem s_plain (hR : RSound P pg n R) {code : Code} {cd : Cd} {c : Cfg} (hc : c.pg = pg) (hr : c.r = none) (hcd : Cd.of P c.N code = some cd) {s : St} {x : Ex} {s' : St} (hq : cd.ev c R s = some (x, s')) {C : Cx} {K : Ctx} {a : Act} {w : World} {m : Nat} {p : Option D} {u : FrameMode} {c0 : Frame} {cs : List Frame} {QQ : Exit → Act → List Frame → World → Prop}
    (hC : IsC P pg C) (hs : Sim C K s.h w) (hf : Fd K c.N s a) (hu : WRel K p u) (hp : PostS C K c.N x s' p c0 cs QQ) : code.wpSIn (Fe P none) m P QQ a ({ c0 with mode := u } :: cs) w :=
  wpSIn_of_wpIn rfl (code_sound hR code cd c hc hcd s x s' hq C K a w none m _ hC (by rw [hr]; trivial) hs hf fun K' a' w' ex h1 h2 h3 h4 => hp K' a' w' ex u h1 h2 h3 h4 (hu.mono h1))

theorem codeS_sound (hR : RSound P pg n R) : ∀ (code : Code) (cd : Cd) (c : Cfg), c.pg = pg → c.r = none → Cd.of P c.N code = some cd → ∀ (s : St) (p : Option D) (x : Ex) (s' : St) (p' : Option D), cd.evS c R s p = some (x, s', p') → ∀ (C : Cx) (K : Ctx) (a : Act) (w : World) (m : Nat) (u : FrameMode) (c0 : Frame) (cs : List Frame) (QQ : Exit → Act → List Frame → World → Prop),
    IsC P pg C → Sim C K s.h w → Fd K c.N s a → WRel K p u → PostS C K c.N x s' p' c0 cs QQ → code.wpSIn (Fe P none) m P QQ a ({ c0 with mode := u } :: cs) w := by
  intro code
  induction code with
  | region id ops draw =>
    intro cd c hc hr h s p x s' p' hq C K a w m u c0 cs QQ hC hs hf hu hp
    cases draw with
    | true =>
      have h' := h
      simp only [Cd.of, Option.bind_eq_some_iff] at h
      obtain ⟨gs, hgs, h⟩ := h
      have hcd : ∃ xs, cd = .draw xs := by
        split at h
        · cases h; exact ⟨_, rfl⟩
        · split at h <;> cases h
          exact ⟨_, rfl⟩
      obtain ⟨xs, rfl⟩ := hcd
      unfold Cd.evS at hq
      split at hq <;> cases hq
      rename_i hev
      exact s_plain hR hc hr h' hev hC hs hf hu hp
    | false =>
      have h' := h
      simp only [Cd.of, Option.map_eq_some_iff] at h
      obtain ⟨gs, hgs, rfl⟩ := h
      simp only [Cd.evS] at hq
      split at hq
      · simp only [Option.map_eq_some_iff, Prod.mk.injEq] at hq
        obtain ⟨⟨s1, p1⟩, hq, rfl, h2⟩ := hq
        simp only [Prod.mk.injEq] at h2
        obtain ⟨rfl, rfl⟩ := h2
        refine wpSIn_region ?_
        have := gsS_sound (P := P) (pg := pg) (R := R) hc hC (m := m) (c0 := c0) (cs := cs) (QQ := QQ) ops.toList 0 gs rfl hgs _ p s1 p1 K a w u hq (hs.bump _) (hf.env _) hu hp
        rw [List.range_eq_range']
        simpa using this
      · split at hq <;> cases hq
        rename_i hev
        exact s_plain hR hc hr h' hev hC hs hf hu hp
  | seq e f ihe ihf =>
    intro cd c hc hr h s p x s' p' hq C K a w m u c0 cs QQ hC hs hf hu hp
    simp only [Cd.of, Option.bind_eq_some_iff, Option.some.injEq] at h
    obtain ⟨ce, he, cf, hff, rfl⟩ := h
    simp only [Cd.evS] at hq
    refine wpSIn_seq ?_
    cases hu1 : ce.evS c R s p with
    | none => rw [hu1] at hq; cases hq
    | some r =>
      obtain ⟨x1, s1, p1⟩ := r
      rw [hu1] at hq
      refine ihe ce c hc hr he s p x1 s1 p1 hu1 C K a w m u c0 cs _ hC hs hf hu fun K' a' w' ex u' h1 h2 h3 h4 h5 => ?_
      cases x1 with
      | normal =>
        cases h4
        exact ihf cf c hc hr hff s1 p1 x s' p' hq C K' a' w' m u' c0 cs QQ hC h2 h3 h5 (hp.mono h1)
      | exit id => cases hq; cases h4; exact hp K' a' w' _ u' h1 h2 h3 (.exit id) h5
      | ret => cases hq; cases h4; exact hp K' a' w' _ u' h1 h2 h3 .ret h5
      | pan d => cases hq; cases h4 with | pan _ v hv => exact hp K' a' w' _ u' h1 h2 h3 (.pan d v hv) h5
  | cond g e f ihe ihf =>
    intro cd c hc hr h s p x s' p' hq C K a w m u c0 cs QQ hC hs hf hu hp
    simp only [Cd.of, Option.bind_eq_some_iff, Option.some.injEq] at h
    obtain ⟨xg, hg, ce, he, cf, hff, rfl⟩ := h
    have hdg := hf.fr.rd hs hg
    rw [hC.hpg] at hdg
    simp only [Cd.evS, hc] at hq
    split at hq <;> try (cases hq; done)
    · rename_i hb
      rw [hb] at hdg
      exact wpSIn_cond (t := true) hdg.val_eq (ihe ce c hc hr he s p x s' p' hq C K a w m u c0 cs QQ hC hs hf hu hp)
    · rename_i hb
      rw [hb] at hdg
      exact wpSIn_cond (t := false) hdg.val_eq (ihf cf c hc hr hff s p x s' p' hq C K a w m u c0 cs QQ hC hs hf hu hp)
  | rangeFunc g ps e f ihe ihf =>
    intro cd c hc hr h s p x s' p' hq C K a w m u c0 cs QQ hC hs hf hu hp
    have h' := h
    simp only [Cd.of, Option.bind_eq_some_iff] at h
    obtain ⟨xg, hg, ce, he, cf, hff, h⟩ := h
    split at h <;> cases h
    unfold Cd.evS at hq
    split at hq <;> cases hq
    rename_i hev
    exact s_plain hR hc hr h' hev hC hs hf hu hp
  | block id e ih =>
    intro cd c hc hr h s p x s' p' hq C K a w m u c0 cs QQ hC hs hf hu hp
    have h' := h
    simp only [Cd.of, Option.map_eq_some_iff] at h
    obtain ⟨ce, he, rfl⟩ := h
    unfold Cd.evS at hq
    split at hq <;> cases hq
    rename_i hev
    exact s_plain hR hc hr h' hev hC hs hf hu hp
  | loop e ih =>
    intro cd c hc hr h s p x s' p' hq C K a w m u c0 cs QQ hC hs hf hu hp
    have h' := h
    simp only [Cd.of, Option.map_eq_some_iff] at h
    obtain ⟨ce, he, rfl⟩ := h
    unfold Cd.evS at hq
    split at hq <;> cases hq
    rename_i hev
    exact s_plain hR hc hr h' hev hC hs hf hu hp
  | scope e ih =>
    intro cd c hc hr h s p x s' p' hq C K a w m u c0 cs QQ hC hs hf hu hp
    have h' := h
    simp only [Cd.of, Option.map_eq_some_iff] at h
    obtain ⟨ce, he, rfl⟩ := h
    unfold Cd.evS at hq
    split at hq <;> cases hq
    rename_i hev
    exact s_plain hR hc hr h' hev hC hs hf hu hp
  | skip =>
    intro cd c hc hr h s p x s' p' hq C K a w m u c0 cs QQ hC hs hf hu hp
    have h' := h
    cases h
    unfold Cd.evS at hq
    split at hq <;> cases hq
    rename_i hev
    exact s_plain hR hc hr h' hev hC hs hf hu hp
  | label l =>
    intro cd c hc hr h s p x s' p' hq C K a w m u c0 cs QQ hC hs hf hu hp
    have h' := h
    cases h
    unfold Cd.evS at hq
    split at hq <;> cases hq
    rename_i hev
    exact s_plain hR hc hr h' hev hC hs hf hu hp
  | exit id =>
    intro cd c hc hr h s p x s' p' hq C K a w m u c0 cs QQ hC hs hf hu hp
    have h' := h
    cases h
    unfold Cd.evS at hq
    split at hq <;> cases hq
    rename_i hev
    exact s_plain hR hc hr h' hev hC hs hf hu hp
  | ret =>
    intro cd c hc hr h s p x s' p' hq C K a w m u c0 cs QQ hC hs hf hu hp
    have h' := h
    cases h
    unfold Cd.evS at hq
    split at hq <;> cases hq
    rename_i hev
    exact s_plain hR hc hr h' hev hC hs hf hu hp
  | _ => intro cd c hc hr h; simp [Cd.of] at h

theorem df_sound (hP : PgOk P pg) (hR : RSound P pg n R) (f : FuncId) (args : List D) (p : Option D) (h : Heap) (p' : Option D) (h' : Heap) (hq : dfBody pg R f args p h = some (p', h')) :
    FnIs P f ∧ ∀ (C : Cx) (K : Ctx) (w : World) (vs : List Value) (u : FrameMode) (m : Nat), IsC P pg C → Sim C K h w → DenL K vs args → URel K p u →
    CallsDIn (Fe P none) m P f vs.toArray u w fun e u' w' => ∃ v K', e = .returned v ∧ K.le K' ∧ Sim C K' h' w' ∧ URel K' p' (settle u') := by
  unfold dfBody at hq
  split at hq <;> try (cases hq; done)
  rename_i fc hfc
  split at hq <;> try (cases hq; done)
  rename_i hlen
  obtain ⟨fn, cc, h1, h2, h3, h4, h5, h6⟩ := hP.fn hfc
  refine ⟨h3, fun C K w vs u m hC hs hd hu => ?_⟩
  have hfd := start_fd (fc := fc) hd hlen h
  refine callsDIn_of_wpSIn h1 h2 (by show (P.funcs[f]?).isSome = true; rw [h1]; rfl) fun c0 cs hc0 => ?_
  rw [h4, show vs.toArray.size = vs.length by simp]
  have hcs : (c0 :: cs) = ({ c0 with mode := u } :: cs) := by subst hc0; rfl
  rw [hcs]
  have fin : ∀ (s1 : St) (p1 : Option D), (if s1.df.isEmpty then (resL s1.h s1.e fc.rs).map fun _ => (p1, s1.h) else none) = some (p', h') → ∀ (K1 : Ctx) (a1 : Act) (w1 : World) (u1 : FrameMode), K.le K1 → Sim C K1 s1.h w1 → Fd K1 fc.N s1 a1 → WRel K1 p1 u1 →
      a1.defers = [] ∧ ∃ u', ({ c0 with mode := u1 } :: cs) = ({ c0 with mode := u' } :: cs) ∧ ∃ v, (results fn a1.tmps).run P w1 = .ok v w1 ∧ ∃ v0 K', Ending.returned v = .returned v0 ∧ K.le K' ∧ Sim C K' h' w1 ∧ URel K' p' (settle u') := by
    intro s1 p1 hq K1 a1 w1 u1 q1 q2 q3 q4
    split at hq <;> try (cases hq; done)
    rename_i hdf
    simp only [Option.map_eq_some_iff, Prod.mk.injEq] at hq
    obtain ⟨ds, hres, rfl, rfl⟩ := hq
    obtain ⟨v, hv, hdv⟩ := run_results (P := P) q2 q3.fr h6 hres
    exact ⟨q3.df.nil_inv hdf, u1, rfl, v, hv, v, K1, rfl, q1, q2, q4.settle⟩
  split at hq <;> try (cases hq; done)
  · rename_i s1 p1 hev
    exact codeS_sound hR cc fc.code ⟨pg, fc.N, none⟩ rfl rfl h5 _ _ _ _ _ hev C K _ w m u c0 cs _ hC hs hfd hu.w fun K1 a1 w1 ex u1 q1 q2 q3 q4 q5 => by
      cases q4; exact fin s1 p1 hq K1 a1 w1 u1 q1 q2 q3 q5
  · rename_i s1 p1 hev
    exact codeS_sound hR cc fc.code ⟨pg, fc.N, none⟩ rfl rfl h5 _ _ _ _ _ hev C K _ w m u c0 cs _ hC hs hfd hu.w fun K1 a1 w1 ex u1 q1 q2 q3 q4 q5 => by
      cases q4; exact fin s1 p1 hq K1 a1 w1 u1 q1 q2 q3 q5

theorem rc_sound (hP : PgOk P pg) : ∀ n, RSound P pg n (rc pg n)
  | 0 => ⟨⟨fun f args h out h' hq => (by cases hq)⟩, fun k args h out h' hq => (by cases hq), fun c cd s x s' hq => (by cases hq), fun f args p h p' h' hq => (by cases hq)⟩
  | n + 1 => ⟨fn_sound hP (rc_sound hP n), yl_sound (rc_sound hP n), lp_sound (rc_sound hP n), df_sound hP (rc_sound hP n)⟩
end
end Go.Em
