/- Code does what the evaluator says. -/
import Derived.Test.YtkbamkdgiglljaaGreatEmM
import Derived.OrdersIn
namespace Go.Em
open Go Go.RowKit

theorem Fd.skip {K : Ctx} {N : Nat} {s : St} {a : Act} (f : Fd K N s a) (t : Option Nat) : Fd K N { s with e := put s.e t (.tup []) } (a.put t undef) :=
  ⟨f.fr.put t (.tup [] [] .nil), by cases t <;> exact f.df⟩

theorem guard_wanted {K : Ctx} {N : Nat} {ops : Array Oper} {o : Oper} {g : Option (Nat × Bool)} (hg : guardOf ops N o.guard = some g) {s : St} {a : Act} (f : Fd K N s a) {d : Option Nat} {q : M ⊕ Cl} {b : Bool} (hw : (G.mk g d q).want s.e = some b) :
    Region.wanted o (yielded ops a.tmps) = b := by
  cases hgu : o.guard with
  | none =>
    rw [hgu] at hg
    cases hg
    cases hw
    simp [Region.wanted, hgu]
  | some jw =>
    obtain ⟨j, want⟩ := jw
    rw [hgu] at hg
    simp only [guardOf, Option.bind_eq_some_iff] at hg
    obtain ⟨d', ⟨o', ho', hd'⟩, hg⟩ := hg
    split at hg <;> cases hg
    rename_i hlt
    simp only [G.want] at hw
    split at hw <;> cases hw
    rotate_left
    · rename_i cs hb
      have hslot := f.fr.slots d' hlt
      rw [hb] at hslot
      have hlt' : d' < a.tmps.size := by rw [f.fr.size]; exact hlt
      obtain ⟨us, hus⟩ : ∃ us, a.tmps.getD d' undef = .tuple us := by
        generalize a.tmps.getD d' undef = v at hslot
        cases hslot with | tup vs _ _ => exact ⟨_, rfl⟩
      have hv' : a.tmps[d']? = some (.tuple us) := by
        rw [Array.getElem?_eq_getElem hlt']
        simp only [Array.getD_eq_getD_getElem?, Array.getElem?_eq_getElem hlt', Option.getD_some] at hus
        rw [hus]
      simp [Region.wanted, hgu, yielded, ho', hd', hv']
    rename_i b' hb
    have hslot := f.fr.slots d' hlt
    rw [hb] at hslot
    have hv := hslot.val_eq
    have hlt' : d' < a.tmps.size := by rw [f.fr.size]; exact hlt
    have hv' : a.tmps[d']? = some (.bool b') := by
      rw [Array.getElem?_eq_getElem hlt']
      simp only [Array.getD_eq_getD_getElem?, Array.getElem?_eq_getElem hlt', Option.getD_some] at hv
      rw [hv]
    simp [Region.wanted, hgu, yielded, ho', hd', hv']

section
variable {P : Program} {pg : Pg} {n : Nat} {R : Rc}

theorem G.about_left {ops : Array Oper} {o : Oper} {g : G} {c : Cfg} (hc : c.pg = pg) (hg : G.of P c.N ops o = some g) {C : Cx} (hC : IsC P pg C) {s : St} {K : Ctx} {a : Act} {w : World} (hs : Sim C K s.h w) (hf : Fd K c.N s a)
    (hq : g.quiet c s.e = true) (hgn : o.guard ≠ none) : ∀ f, o.about P w a.eval = some f → (P.funcs[f]?).isSome = true := by
  intro f hab
  simp only [G.of, Option.bind_eq_some_iff] at hg
  obtain ⟨gu, hgu, hg⟩ := hg
  split at hg
  · rename_i mm hm
    rw [plain_about mm.2.1] at hab; cases hab
  · simp only [Option.map_eq_some_iff] at hg
    obtain ⟨q, hcl, rfl⟩ := hg
    unfold Cl.of at hcl
    split at hcl
    · rename_i cc hop
      split at hcl
      · rename_i f' hcal
        split at hcl <;> try (cases hcl; done)
        rename_i hsome
        have hres : (resolve a.eval cc o.type).run P w = .ok { target := .fn (.func f') #[], args := cc.args.map a.eval } w := by
          simp [resolve, hcal, Act.eval, Deferred.ofValue]
        simp only [Oper.about, hop, hres, Target.leads, Option.some.injEq] at hab
        rw [← hab]; exact hsome
      · rename_i x _ hcal
        simp only [Option.bind_eq_some_iff, Option.map_eq_some_iff] at hcl
        obtain ⟨x', hx, xs, hxs, rfl⟩ := hcl
        have hgs : o.guard.isSome = true := by
          cases hgg : o.guard with
          | none => exact absurd hgg hgn
          | some _ => rfl
        have hk : known c (rd c.pg.gl s.e x') = true := by
          unfold G.quiet at hq
          simp only [hgs] at hq
          exact hq
        have hd : Den K (a.eval x) (rd c.pg.gl s.e x') := by
          have := hf.fr.rd hs hx
          rw [hC.hpg, ← hc] at this
          exact this
        have hab' : (match (Deferred.ofValue (a.eval x) (cc.args.map a.eval)).run P w with | .ok d w' => d.target.leads P w' d.args | .halt _ _ => none) = some f := by
          have : o.about P w a.eval = (match (Deferred.ofValue (a.eval x) (cc.args.map a.eval)).run P w with | .ok d w' => d.target.leads P w' d.args | .halt _ _ => none) := by
            simp only [Oper.about, hop, resolve, hcal]
            rfl
          rw [← this]; exact hab
        generalize a.eval x = v at hd hab'
        generalize rd c.pg.gl s.e x' = d at hd hk
        unfold known at hk
        split at hk
        · cases hd with | tup vs _ _ => simp [Deferred.ofValue, stuck] at hab'
        · cases hd with | val _ _ => simp [Deferred.ofValue, Target.leads] at hab'
        · cases hd with | yld k b n _ => simp [Deferred.ofValue, Target.leads] at hab'
        · rename_i f' _ _
          cases hd with
          | fn _ us vs _ _ _ _ =>
            simp [Deferred.ofValue, Target.leads] at hab'
            subst hab'
            obtain ⟨fc, hfc⟩ := Option.isSome_iff_exists.1 hk
            rw [hc] at hfc
            exact hC.cd _ _ hfc
        · cases hk
      · rename_i hcal
        have hpl : opPlain o.op = true := by rw [hop]; simp [opPlain, hcal]
        rw [plain_about hpl] at hab; cases hab
      · cases hcl
    · rename_i cc hop
      simp [Oper.about, hop] at hab
    · rename_i x hop
      simp [Oper.about, hop] at hab
    · cases hcl

theorem gs_sound (hR : RSound P pg n R) {c : Cfg} (hc : c.pg = pg) {base : Nat} {ops : Array Oper} {C : Cx} (hC : IsC P pg C) {rb : Option Nat} {m : Nat} {QQ : Exit → Act → World → Prop} : ∀ (l : List Oper) (gs : List G), Gs.of P c.N ops l = some gs →
    ∀ (s : St) (x : Ex) (s' : St) (K : Ctx) (a : Act) (w : World), runG c R base gs s = some (x, s') → RndOk K c.r rb → Sim C K s.h w → Fd K c.N s a → Post C K c.N x s' QQ → wpListIn (Fe P rb) m P ops QQ l a w
  | [], gs, h, s, x, s', K, a, w, hq, hrb, hs, hf, hp => by
    simp only [Gs.of, Option.some.injEq] at h
    subst h
    simp only [runG, Option.some.injEq, Prod.mk.injEq] at hq
    obtain ⟨rfl, rfl⟩ := hq
    exact hp K a w .normal (.refl K) hs hf .normal
  | o :: l, gs, h, s, x, s', K, a, w, hq, hrb, hs, hf, hp => by
    simp only [Gs.of, Option.bind_eq_some_iff, Option.some.injEq] at h
    obtain ⟨g, hg, gs', hgs, rfl⟩ := h
    have hg0 := hg
    simp only [G.of, Option.bind_eq_some_iff] at hg
    obtain ⟨gu, hgu, hg⟩ := hg
    have hdst : g.d = o.dst ∧ g.g = gu := by
      split at hg
      · cases hg; exact ⟨rfl, rfl⟩
      · simp only [Option.map_eq_some_iff] at hg
        obtain ⟨q, _, rfl⟩ := hg; exact ⟨rfl, rfl⟩
    simp only [runG] at hq
    split at hq <;> try (cases hq; done)
    · rename_i hw
      have hwant := guard_wanted (K := K) (a := a) hgu hf (d := g.d) (q := g.o) (b := true) (by rw [← hdst.2]; exact hw)
      simp only [wpListIn, hwant, if_true]
      split at hq <;> try (cases hq; done)
      · -- it goes on
        rename_i d s1 hev
        split at hg
        · rename_i mm hm
          cases hg
          simp only [G.ev, Option.map_eq_some_iff, Op1.ok.injEq] at hev
          obtain ⟨⟨d0, h0⟩, hme, rfl, rfl⟩ := hev
          rw [hc, ← hC.hpg] at hme
          obtain ⟨v, w', K', hd, hle, hs', hv⟩ := mm.2.2 C K s.h h0 w s.e a _ d0 hC.hP hs hf.fr hme
          exact wpIn_did mm.2.1 hd (gs_sound hR hc hC l gs' hgs _ x s' K' _ w' hq (hrb.mono hle) hs' ⟨(hf.fr.mono hle).put o.dst hv, by have := hf.df.mono hle; cases hd : o.dst <;> exact this⟩ (hp.mono hle))
        · simp only [Option.map_eq_some_iff] at hg
          obtain ⟨q, hcl, rfl⟩ := hg
          refine cl_sound hR hc hcl (r := .ok d s1) hev hC hrb hs hf (fun d' s2 hr K' a' w' h1 h2 h3 => ?_) (fun d' s2 hr => by cases hr)
          cases hr
          exact gs_sound hR hc hC l gs' hgs _ x s' K' a' w' hq (hrb.mono h1) h2 h3 (hp.mono h1)
      · -- it panics
        rename_i d s1 hev
        simp only [Option.some.injEq, Prod.mk.injEq] at hq
        obtain ⟨rfl, rfl⟩ := hq
        split at hg
        · cases hg
          simp only [G.ev, Option.map_eq_some_iff] at hev
          obtain ⟨_, _, hev⟩ := hev; cases hev
        · simp only [Option.map_eq_some_iff] at hg
          obtain ⟨q, hcl, rfl⟩ := hg
          refine cl_sound hR hc hcl (r := .pan d s1) hev hC hrb hs hf (fun d' s2 hr => by cases hr) (fun d' s2 hr K' a' w' ex h1 h2 h3 h4 => ?_)
          cases hr
          exact hp K' a' w' ex h1 h2 h3 h4
    · rename_i hw
      split at hq <;> try (cases hq; done)
      rename_i hqt
      have hwant := guard_wanted (K := K) (a := a) hgu hf (d := g.d) (q := g.o) (b := false) (by rw [← hdst.2]; exact hw)
      simp only [wpListIn, hwant, Bool.false_eq_true, if_false]
      have hgn : o.guard ≠ none := fun e => by
        rw [e] at hgu
        simp only [guardOf, Option.some.injEq] at hgu
        rw [G.want, hdst.2, ← hgu] at hw
        cases hw
      have hab : ∀ f, o.about P w a.eval = some f → (Fe P rb).fn f := G.about_left hc hg0 hC hs hf hqt hgn
      refine ⟨hab, gs_sound hR hc hC l gs' hgs _ x s' K _ w hq hrb hs ?_ hp⟩
      rw [hdst.1]; exact hf.skip o.dst
end
end Go.Em
/- Drawn regions: every order that the machine may take does what the text's order does. -/
namespace Go.Em
open Go Go.RowKit

section
variable {P : Program} {pg : Pg} {n : Nat} {R : Rc}

theorem G.of_about {o : Oper} {w : World} {ρ : Operand → Value} (hpl : opPlain o.op = true) : ∀ f, o.about P w ρ = some f → (P.funcs[f]?).isSome = true := by
  intro f hab
  rw [plain_about hpl] at hab; cases hab

theorem G.of_parts {N : Nat} {ops : Array Oper} {o : Oper} {g : G} (hg : G.of P N ops o = some g) : guardOf ops N o.guard = some g.g ∧ g.d = o.dst ∧ ((∃ mm, decMA P N ops o = some mm ∧ g.o = .inl mm.1) ∨ ∃ q, Cl.of P N o = some q ∧ g.o = .inr q) := by
  simp only [G.of, Option.bind_eq_some_iff] at hg
  obtain ⟨gu, hgu, hg⟩ := hg
  split at hg
  · rename_i mm hm
    cases hg
    exact ⟨hgu, rfl, .inl ⟨mm, hm, rfl⟩⟩
  · simp only [Option.map_eq_some_iff] at hg
    obtain ⟨q, hq, rfl⟩ := hg
    exact ⟨hgu, rfl, .inr ⟨q, hq, rfl⟩⟩


def left (n : Nat) (listed : Array Bool) : List Nat := (List.range n).filter fun i => !listed.getD i true

theorem range_split {i n : Nat} (h : i < n) : List.range n = List.range i ++ i :: List.range' (i + 1) (n - i - 1) := by
  have h1 : n = i + (n - i) := by omega
  rw [List.range_eq_range', List.range_eq_range']
  conv => lhs; rw [h1]
  rw [← List.range'_append_1, Nat.zero_add]
  congr 1
  obtain ⟨k, hk⟩ : ∃ k, n - i = k + 1 := ⟨n - i - 1, by omega⟩
  rw [hk, List.range'_succ]
  simp

theorem left_split {n i : Nat} {listed : Array Bool} (hi : i < n) (hs : listed.size = n) (hu : listed.getD i true = false) :
    ∃ A B, left n listed = A ++ i :: B ∧ left n (listed.setIfInBounds i true) = A ++ B ∧ ∀ j, j ∈ A → j < i ∧ listed.getD j true = false := by
  refine ⟨(List.range i).filter (fun j => !listed.getD j true), (List.range' (i + 1) (n - i - 1)).filter (fun j => !listed.getD j true), ?_, ?_, ?_⟩
  · simp only [left]
    rw [range_split hi, List.filter_append, List.filter_cons_of_pos (by simp only [hu, Bool.not_false])]
  · simp only [left]
    rw [range_split hi, List.filter_append, List.filter_cons_of_neg (by simp [Array.getD_eq_getD_getElem?, hs, hi])]
    congr 1
    · refine List.filter_congr fun j hj => ?_
      rw [getD_set_ne true (by have := List.mem_range.1 hj; omega)]
    · refine List.filter_congr fun j hj => ?_
      rw [getD_set_ne true (by have := (List.mem_range'_1.1 hj).1; omega)]
  · intro j hj
    rw [List.mem_filter, List.mem_range] at hj
    exact ⟨hj.1, by simpa using hj.2⟩

theorem getD_dflt {l : Array Bool} {i : Nat} (h : i < l.size) (d d' : Bool) : l.getD i d = l.getD i d' := by
  simp [Array.getD_eq_getD_getElem?, Array.getElem?_eq_getElem h]

theorem Gs.of_get {N : Nat} {ops : Array Oper} : ∀ (l : List Oper) (gs : List G), Gs.of P N ops l = some gs → gs.length = l.length ∧ ∀ (i : Nat) (o : Oper), l[i]? = some o → ∃ g, gs[i]? = some g ∧ G.of P N ops o = some g
  | [], gs, h => by simp only [Gs.of, Option.some.injEq] at h; subst h; exact ⟨rfl, fun i o ho => by simp at ho⟩
  | x :: l, gs, h => by
    simp only [Gs.of, Option.bind_eq_some_iff, Option.some.injEq] at h
    obtain ⟨g, hg, gs', hgs, rfl⟩ := h
    obtain ⟨h1, h2⟩ := Gs.of_get l gs' hgs
    refine ⟨by simp [h1], fun i o ho => ?_⟩
    cases i with
    | zero => simp only [List.getElem?_cons_zero, Option.some.injEq] at ho; subst ho; exact ⟨g, rfl, hg⟩
    | succ i => exact h2 i o (by simpa using ho)

theorem one_sound (hR : RSound P pg n R) {c : Cfg} (hc : c.pg = pg) {base : Nat} {ops : Array Oper} {C : Cx} (hC : IsC P pg C) {rb : Option Nat} {m : Nat} {QQ : Exit → Act → World → Prop} {i : Nat} {o : Oper} (ho : ops[i]? = some o) {x : DG} (hg : G.of P c.N ops o = some x.g) (hpn : x.pn = false)
    {s s1 : St} (hq : dstep c R base x s = some s1) {K : Ctx} {a : Act} {w : World} (hrb : RndOk K c.r rb) (hs : Sim C K s.h w) (hf : Fd K c.N s a) {next : Act → World → Prop}
    (hn : ∀ (K' : Ctx) (a' : Act) (w' : World), K.le K' → Sim C K' s1.h w' → Fd K' c.N s1 a' → next a' w') : wpOpIn (Fe P rb) m P ops QQ i next a w := by
  obtain ⟨hgu, hgd, hgo⟩ := G.of_parts hg
  simp only [wpOpIn, ho]
  unfold dstep at hq
  simp only [Option.map_eq_some_iff] at hq
  obtain ⟨⟨d, h'⟩, hq, rfl⟩ := hq
  unfold dcore at hq
  split at hq
  · rename_i hw
    have hwant := guard_wanted (K := K) (a := a) hgu hf (d := x.g.d) (q := x.g.o) (b := false) hw
    rw [hwant, if_neg (by simp)]
    split at hq <;> try (cases hq; done)
    rename_i hqt
    cases hq
    have hgn : o.guard ≠ none := fun e => by
      rw [e] at hgu
      simp only [guardOf, Option.some.injEq] at hgu
      rw [G.want, ← hgu] at hw
      cases hw
    exact ⟨G.about_left hc hg hC hs hf hqt hgn, hn K _ w (.refl K) hs (by rw [hgd]; exact hf.skip o.dst)⟩
  · rename_i hw
    have hwant := guard_wanted (K := K) (a := a) hgu hf (d := x.g.d) (q := x.g.o) (b := true) hw
    rw [hwant, if_pos rfl]
    have simple : ∀ m0, x.g.o = .inl m0 → m0.ev c.pg.gl (base + x.g.d.getD 0) s.e s.h = some (d, h') → o.wpIn (Fe P rb) m P a w next QQ := fun m0 hm0 hev => by
      rcases hgo with ⟨mm, hm, hgo⟩ | ⟨q, hcl, hgo⟩
      · rw [hm0] at hgo
        cases hgo
        rw [hc, ← hC.hpg] at hev
        obtain ⟨v, w', K', hd, hle, hs', hv⟩ := mm.2.2 C K s.h h' w s.e a _ d hC.hP hs hf.fr hev
        refine wpIn_did mm.2.1 hd (hn K' _ w' hle hs' ⟨?_, ?_⟩)
        · rw [hgd]; exact (hf.fr.mono hle).put o.dst hv
        · have := hf.df.mono hle; cases hd : o.dst <;> exact this
      · rw [hm0] at hgo; cases hgo
    split at hq <;> try (cases hq; done)
    · rename_i m0 hm0 _
      exact simple m0 hm0 hq
    · rename_i m0 ts hm0 _
      split at hq <;> try (cases hq; done)
      exact simple m0 hm0 hq
    · rename_i f args ts hm0 _
      split at hq <;> try (cases hq; done)
      rename_i hsh
      split at hq <;> try (cases hq; done)
      rename_i as ks has
      split at hq <;> try (cases hq; done)
      rename_i o1 hp
      split at hq <;> try (cases hq; done)
      rename_i hcc
      simp only [Bool.and_eq_true, beq_iff_eq, hpn] at hcc
      obtain ⟨hcc, hpn'⟩ := hcc
      cases o1 with
      | pan d1 => simp [Out.isPan] at hpn'
      | ret d1 =>
      simp only [Out.d] at hcc
      cases hq
      rcases hgo with ⟨mm, hm, hgo⟩ | ⟨q, hcl, hgo⟩
      · rw [hm0] at hgo; cases hgo
      · rw [hm0] at hgo
        cases hgo
        have hev : (Cl.fn f args).ev c R s = some (.ok d1 { s with h := if (ks.isEmpty || d1.flat) = true then s.h else s.h.cool ks }) := by
          simp only [Cl.ev, call, if_neg hsh]
          rw [each_of (frz_of (h0 := s.h) (h2 := s.h) rfl depth) _ _ has]
          simp only [hp, Option.map_some]
          rfl
        refine cl_sound hR hc hcl hev hC hrb hs hf (fun d' s2 hr K' a' w' h1 h2 h3 => ?_) (fun d' s2 hr => by cases hr)
        cases hr
        refine hn K' a' w' h1 ?_ (by rw [hgd]; exact ⟨h3.fr, h3.df⟩)
        unfold thaw
        simp only at h2
        split
        · rename_i hfl
          have hfl : (ks.isEmpty || d1.flat) = true := hfl
          rw [if_pos hfl] at h2; exact h2
        · rename_i hfl
          have hfl : ¬ (ks.isEmpty || d1.flat) = true := hfl
          rw [if_neg hfl] at h2; exact h2.uncool
    · rename_i f args hm0 _
      split at hq <;> try (cases hq; done)
      split at hq <;> try (cases hq; done)
      rename_i d1 h1 hcall
      split at hq <;> try (cases hq; done)
      cases hq
      rcases hgo with ⟨mm, hm, hgo⟩ | ⟨q, hcl, hgo⟩
      · rw [hm0] at hgo; cases hgo
      · rw [hm0] at hgo
        cases hgo
        have hev : (Cl.fn f args).ev c R s = some (.ok d { s with h := h' }) := by
          simp only [Cl.ev, hcall]
        refine cl_sound hR hc hcl hev hC hrb hs hf (fun d' s2 hr K' a' w' h1 h2 h3 => ?_) (fun d' s2 hr => by cases hr)
        cases hr
        exact hn K' a' w' h1 h2 (by rw [hgd]; exact h3)
    · rename_i gd y args ts hm0 _
      split at hq <;> try (cases hq; done)
      rename_i f fs cs hy
      split at hq <;> try (cases hq; done)
      rename_i hsh
      split at hq <;> try (cases hq; done)
      rename_i as ks has
      split at hq <;> try (cases hq; done)
      rename_i o1 hp
      split at hq <;> try (cases hq; done)
      rename_i hcc
      simp only [Bool.and_eq_true, beq_iff_eq, hpn] at hcc
      obtain ⟨hcc, hpn'⟩ := hcc
      cases o1 with
      | pan d1 => simp [Out.isPan] at hpn'
      | ret d1 =>
      simp only [Out.d] at hcc
      cases hq
      rcases hgo with ⟨mm, hm, hgo⟩ | ⟨q, hcl, hgo⟩
      · rw [hm0] at hgo; cases hgo
      · rw [hm0] at hgo
        cases hgo
        have hev : (Cl.val gd y args).ev c R s = some (.ok d1 s) := by
          simp only [Cl.ev, hy, call, if_neg hsh]
          rw [each_of (frz_of (h0 := s.h) (h2 := s.h) rfl depth) _ _ has]
          simp only [hp, Option.map_some]
          rw [if_pos (show (ks.isEmpty || (Out.ret d1).d.flat) = true from hcc)]
        refine cl_sound hR hc hcl hev hC hrb hs hf (fun d' s2 hr K' a' w' h1 h2 h3 => ?_) (fun d' s2 hr => by cases hr)
        cases hr
        exact hn K' a' w' h1 h2 (by rw [hgd]; exact h3)
    · rename_i gd y args hm0 _
      split at hq <;> try (cases hq; done)
      split at hq <;> try (cases hq; done)
      rename_i f fs cs hy
      split at hq <;> try (cases hq; done)
      rename_i d1 h1 hcall
      split at hq <;> try (cases hq; done)
      cases hq
      rcases hgo with ⟨mm, hm, hgo⟩ | ⟨q, hcl, hgo⟩
      · rw [hm0] at hgo; cases hgo
      · rw [hm0] at hgo
        cases hgo
        have hev : (Cl.val gd y args).ev c R s = some (.ok d { s with h := h' }) := by
          simp only [Cl.ev, hy, hcall]
        refine cl_sound hR hc hcl hev hC hrb hs hf (fun d' s2 hr K' a' w' h1 h2 h3 => ?_) (fun d' s2 hr => by cases hr)
        cases hr
        exact hn K' a' w' h1 h2 (by rw [hgd]; exact h3)
  · cases hq

theorem one_pan (hR : RSound P pg n R) {c : Cfg} (hc : c.pg = pg) {base : Nat} {ops : Array Oper} {C : Cx} (hC : IsC P pg C) {rb : Option Nat} {m : Nat} {QQ : Exit → Act → World → Prop} {i : Nat} {o : Oper} (ho : ops[i]? = some o) {x : DG} (hg : G.of P c.N ops o = some x.g) (hpn : x.pn = true) (hgn : x.g.g = none) {q0 : Cl} (hq0 : x.g.o = .inr q0)
    {s s1 : St} (hq : dstep c R base x s = some s1) {K : Ctx} {a : Act} {w : World} (hrb : RndOk K c.r rb) (hs : Sim C K s.h w) (hf : Fd K c.N s a) {next : Act → World → Prop}
    (hn : ∀ (d : D), s1 = { s with e := put s.e x.g.d d } → ∀ (K' : Ctx) (a' : Act) (w' : World) (ex : Exit), K.le K' → Sim C K' s.h w' → Fd K' c.N s a' → ExRel K' (.pan d) ex → QQ ex a' w') : wpOpIn (Fe P rb) m P ops QQ i next a w := by
  obtain ⟨hgu, hgd, hgo⟩ := G.of_parts hg
  simp only [wpOpIn, ho]
  unfold dstep at hq
  simp only [Option.map_eq_some_iff] at hq
  obtain ⟨⟨d, h'⟩, hq, rfl⟩ := hq
  unfold dcore at hq
  have hw : x.g.want s.e = some true := by simp only [G.want, hgn]
  have hwant := guard_wanted (K := K) (a := a) hgu hf (d := x.g.d) (q := x.g.o) (b := true) hw
  rw [hwant, if_pos rfl]
  rw [hw] at hq
  simp only at hq
  split at hq <;> try (cases hq; done)
  · rename_i hm0 _; rw [hq0] at hm0; cases hm0
  · rename_i hm0 _; rw [hq0] at hm0; cases hm0
  · rename_i f args ts hm0 _
    split at hq <;> try (cases hq; done)
    rename_i hsh
    split at hq <;> try (cases hq; done)
    rename_i as ks has
    split at hq <;> try (cases hq; done)
    rename_i o1 hp
    split at hq <;> try (cases hq; done)
    rename_i hcc
    simp only [Bool.and_eq_true, beq_iff_eq, hpn] at hcc
    obtain ⟨hcc, hpn'⟩ := hcc
    cases o1 with
    | ret d1 => simp [Out.isPan] at hpn'
    | pan d1 =>
    simp only [Out.d] at hcc
    replace hcc : (ks.isEmpty || d1.flat) = true := by simpa [mayKill] using hcc
    unfold thaw at hq
    rw [if_pos (show (ks.isEmpty || (Out.pan d1).d.flat) = true from hcc)] at hq
    cases hq
    rcases hgo with ⟨mm, hm, hgo⟩ | ⟨q, hcl, hgo⟩
    · rw [hm0] at hgo; cases hgo
    · rw [hm0] at hgo
      cases hgo
      have hev : (Cl.fn f args).ev c R s = some (.pan d1 s) := by
        simp only [Cl.ev, call, if_neg hsh]
        rw [each_of (frz_of (h0 := s.h) (h2 := s.h) rfl depth) _ _ has]
        simp only [hp, Option.map_some]
        rw [if_pos (show (ks.isEmpty || (Out.pan d1).d.flat) = true from hcc)]
      refine cl_sound hR hc hcl hev hC hrb hs hf (fun d' s2 hr => by cases hr) (fun d' s2 hr K' a' w' ex h1 h2 h3 h4 => ?_)
      cases hr
      exact hn d1 rfl K' a' w' ex h1 h2 h3 h4
  · rename_i f args hm0 _
    rw [if_pos hpn] at hq
    cases hq
  · rename_i gd y args ts hm0 _
    split at hq <;> try (cases hq; done)
    rename_i f fs cs hy
    split at hq <;> try (cases hq; done)
    rename_i hsh
    split at hq <;> try (cases hq; done)
    rename_i as ks has
    split at hq <;> try (cases hq; done)
    rename_i o1 hp
    split at hq <;> try (cases hq; done)
    rename_i hcc
    simp only [Bool.and_eq_true, beq_iff_eq, hpn] at hcc
    obtain ⟨hcc, hpn'⟩ := hcc
    cases o1 with
    | ret d1 => simp [Out.isPan] at hpn'
    | pan d1 =>
    simp only [Out.d] at hcc
    cases hq
    rcases hgo with ⟨mm, hm, hgo⟩ | ⟨q, hcl, hgo⟩
    · rw [hm0] at hgo; cases hgo
    · rw [hm0] at hgo
      cases hgo
      have hev : (Cl.val gd y args).ev c R s = some (.pan d1 s) := by
        simp only [Cl.ev, hy, call, if_neg hsh]
        rw [each_of (frz_of (h0 := s.h) (h2 := s.h) rfl depth) _ _ has]
        simp only [hp, Option.map_some]
        rw [if_pos (show (ks.isEmpty || (Out.pan d1).d.flat) = true from hcc)]
      refine cl_sound hR hc hcl hev hC hrb hs hf (fun d' s2 hr => by cases hr) (fun d' s2 hr K' a' w' ex h1 h2 h3 h4 => ?_)
      cases hr
      exact hn d1 rfl K' a' w' ex h1 h2 h3 h4
  · rename_i gd y args hm0 _
    rw [if_pos hpn] at hq
    cases hq

theorem okDraw_spec {ops : Array Oper} {xs : List DG} (hok : okDraw P ops.toList xs = true) : ∀ i, i < ops.size → ∃ o, ops[i]? = some o ∧ (∀ d, d ∈ depsOf o → d < i) ∧ (∀ j, j < i → ((masks ops.toList []).getD i 0).testBit j = true ∨ (xs.getD i dflt).free (xs.getD j dflt) = true) ∧
      (∀ j, j < ops.size → ((masks ops.toList []).getD i 0).testBit j = true → j ∈ depsOf o ∨ ∃ d, d ∈ depsOf o ∧ ((masks ops.toList []).getD d 0).testBit j = true) ∧ (xs.getD i dflt).wt = (masks ops.toList []).getD i 0 ∧ (xs.getD i dflt).pn = false := fun i hi => by
  simp only [okDraw, Bool.and_eq_true, List.all_eq_true, List.mem_range, Array.length_toList] at hok
  have := hok.2 i hi
  split at this
  · cases this
  · rename_i o ho
    simp only [Bool.and_eq_true, List.all_eq_true, List.mem_range, Bool.or_eq_true, Bool.not_eq_true', decide_eq_true_eq, List.contains_eq_mem, List.any_eq_true, beq_iff_eq] at this
    obtain ⟨⟨⟨⟨i1, i0⟩, i0'⟩, i2⟩, i3⟩ := this
    refine ⟨o, by simpa using ho, i1, i2, fun j hj hb => ?_, i0, i0'⟩
    rcases i3 j hj with (i3 | i3) | i3
    · rw [hb] at i3; cases i3
    · exact .inl i3
    · exact .inr i3

theorem any_sound (hR : RSound P pg n R) {c : Cfg} (hc : c.pg = pg) {base : Nat} {ops : Array Oper} {gs : List G} {xs : List DG} (hgs : Gs.of P c.N ops ops.toList = some gs) (hxs : xs.map (·.g) = gs) (hok : okDraw P ops.toList xs = true)
    {C : Cx} (hC : IsC P pg C) {rb : Option Nat} {m : Nat} {QQ : Exit → Act → World → Prop} {r : St} :
    ∀ (fuel : Nat) (listed : Array Bool) (s : St) (K : Ctx) (a : Act) (w : World), listed.size = ops.size → (∀ m, listed.getD m false = true → ∀ j, j < ops.size → ((masks ops.toList []).getD m 0).testBit j = true → listed.getD j false = true) →
      (left ops.size listed).length ≤ fuel → RndOk K c.r rb → Sim C K s.h w → Fd K c.N s a → runDr c R base ((left ops.size listed).map fun i => xs.getD i dflt) s = some r → Post C K c.N .normal r QQ → wpAnyIn (Fe P rb) m P .any ops QQ fuel listed a w := by
  obtain ⟨hlen, hget⟩ := Gs.of_get _ _ hgs
  have hok' := okDraw_spec (P := P) hok
  have hdeps : ∀ o d (listed : Array Bool), (∀ x ∈ o.after, Region.binds .any x = true → listed.getD x.on false = true) → d ∈ depsOf o → listed.getD d false = true := fun o d listed h hd => by
    simp only [depsOf, List.mem_map, List.mem_filter] at hd
    obtain ⟨x, ⟨hx, hb⟩, rfl⟩ := hd
    exact h x (by simpa using hx) hb
  have hnone : ∀ (listed : Array Bool), listed.size = ops.size → left ops.size listed = [] → Region.ready .any ops listed = [] := fun listed hs hl => by
    refine List.eq_nil_iff_forall_not_mem.2 fun i hi => ?_
    obtain ⟨h1, o, ho, _⟩ := mem_ready.1 hi
    have hlt : i < ops.size := (Array.getElem?_eq_some_iff.1 ho).1
    have : i ∈ left ops.size listed := List.mem_filter.2 ⟨List.mem_range.2 hlt, by simp [h1]⟩
    rw [hl] at this; cases this
  intro fuel
  induction fuel with
  | zero =>
    intro listed s K a w hs hcl hf hrb hsim hfd hq hp
    have hl : left ops.size listed = [] := List.eq_nil_of_length_eq_zero (by omega)
    rw [hl] at hq
    cases hq
    exact ⟨hnone listed hs hl, hp K a w .normal (.refl K) hsim hfd .normal⟩
  | succ fuel ih =>
    intro listed s K a w hs hcl hf hrb hsim hfd hq hp
    refine ⟨fun hrd => ?_, fun i hi => ?_⟩
    · have all : ∀ i, i < ops.size → listed.getD i false = true := by
        intro i
        induction i using Nat.strongRecOn with
        | _ i ihh =>
          intro hi
          obtain ⟨o, ho, hd, _⟩ := hok' i hi
          cases hu : listed.getD i false with
          | true => rfl
          | false =>
            have : i ∈ Region.ready .any ops listed := mem_ready.2 ⟨by rw [getD_dflt (by omega) true false]; exact hu, o, ho, fun x hx hb => by
              have hlt := hd x.on (by simp only [depsOf, List.mem_map, List.mem_filter]; exact ⟨x, ⟨by simpa using hx, hb⟩, rfl⟩)
              exact ihh x.on hlt (by omega)⟩
            rw [hrd] at this; cases this
      have hl : left ops.size listed = [] := by
        refine List.eq_nil_iff_forall_not_mem.2 fun i hi => ?_
        rw [left, List.mem_filter, List.mem_range] at hi
        have := all i hi.1
        rw [getD_dflt (by omega) false true] at this
        rw [this] at hi; simp at hi
      rw [hl] at hq
      cases hq
      exact hp K a w .normal (.refl K) hsim hfd .normal
    · obtain ⟨hu, o, ho, hafter⟩ := mem_ready.1 hi
      have hlt : i < ops.size := (Array.getElem?_eq_some_iff.1 ho).1
      obtain ⟨A, B, h1, h2, h3⟩ := left_split hlt hs hu
      obtain ⟨o', ho', _, hfree, hclose, _, hpn⟩ := hok' i hlt
      rw [ho] at ho'; cases ho'
      have hdone : ∀ j, j < ops.size → ((masks ops.toList []).getD i 0).testBit j = true → listed.getD j false = true := fun j hj hb => by
        rcases hclose j hj hb with hd | ⟨d, hd, hb'⟩
        · exact hdeps o j listed hafter hd
        · exact hcl d (hdeps o d listed hafter hd) j hj hb'
      rw [h1, List.map_append, List.map_cons] at hq
      obtain ⟨s1, hq1, hq2⟩ := runDr_front _ _ (fun g hg' => by
        rw [List.mem_map] at hg'
        obtain ⟨j, hj, rfl⟩ := hg'
        obtain ⟨hji, hju⟩ := h3 j hj
        rcases hfree j hji with hb | hb
        · have := hdone j (by omega) hb
          rw [getD_dflt (by omega) false true, hju] at this; cases this
        · exact hb) hq
      obtain ⟨g, hgi, hgof⟩ := hget i o (by simpa using ho)
      have hlook : (xs.getD i dflt).g = g := by
        rw [← hxs] at hgi
        simp only [List.getElem?_map, Option.map_eq_some_iff] at hgi
        obtain ⟨x, hx, hx1⟩ := hgi
        simp only [List.getD, hx, Option.getD_some, hx1]
      refine one_sound hR hc hC ho (by rw [hlook]; exact hgof) hpn hq1 hrb hsim hfd fun K' a' w' k1 k2 k3 => ?_
      refine ih _ s1 K' a' w' (by simpa using hs) (fun m hm' j hj hb => ?_) ?_ (hrb.mono k1) k2 k3 (by rw [h2, List.map_append]; exact hq2) (hp.mono k1)
      · by_cases hmi : m = i
        · subst hmi
          exact getD_set_true (hdone j hj hb)
        · rw [getD_set_ne false (Ne.symm hmi)] at hm'
          exact getD_set_true (hcl m hm' j hj hb)
      · rw [h2]; rw [h1] at hf; simp only [List.length_append, List.length_cons] at hf ⊢; omega

def leftP (n : Nat) (listed : Array Bool) (dep : Nat → Bool) : List Nat := (List.range n).filter fun i => !listed.getD i true && !dep i
theorem leftP_split {n i : Nat} {listed : Array Bool} {dep : Nat → Bool} (hi : i < n) (hs : listed.size = n) (hu : listed.getD i true = false) (hd : dep i = false) :
    ∃ A B, leftP n listed dep = A ++ i :: B ∧ leftP n (listed.setIfInBounds i true) dep = A ++ B ∧ ∀ j, j ∈ A → j < i ∧ listed.getD j true = false := by
  refine ⟨(List.range i).filter (fun j => !listed.getD j true && !dep j), (List.range' (i + 1) (n - i - 1)).filter (fun j => !listed.getD j true && !dep j), ?_, ?_, ?_⟩
  · simp only [leftP]
    rw [range_split hi, List.filter_append, List.filter_cons_of_pos (by simp only [hu, hd, Bool.not_false, Bool.and_self])]
  · simp only [leftP]
    rw [range_split hi, List.filter_append, List.filter_cons_of_neg (by simp [Array.getD_eq_getD_getElem?, hs, hi])]
    congr 1
    · refine List.filter_congr fun j hj => ?_
      rw [getD_set_ne true (by have := List.mem_range.1 hj; omega)]
    · refine List.filter_congr fun j hj => ?_
      rw [getD_set_ne true (by have := (List.mem_range'_1.1 hj).1; omega)]
  · intro j hj
    rw [List.mem_filter, List.mem_range, Bool.and_eq_true] at hj
    exact ⟨hj.1, by simpa using hj.2.1⟩

theorem dstep_inv {c : Cfg} {R : Rc} {base : Nat} {x : DG} (hx : x.fresh = true) {F : List Nat} (hF : ∀ k, k ∈ x.frs base → k ∈ F) {s s1 : St} (h : dstep c R base x s = some s1) :
    s1.h.kill F = s.h.kill F ∧ s1.df = s.df ∧ s1.e.length = s.e.length ∧ ∀ t, x.g.d ≠ some t → s1.e.getD t .junk = s.e.getD t .junk := by
  unfold dstep at h
  simp only [Option.map_eq_some_iff] at h
  obtain ⟨⟨d, h'⟩, hq, rfl⟩ := h
  refine ⟨?_, rfl, by cases hd : x.g.d <;> simp [put], fun t ht => put_getD ht⟩
  unfold DG.fresh at hx
  split at hx
  · rename_i ts hts
    simp only [Bool.and_eq_true, List.all_eq_true] at hx
    obtain ⟨ups, i1, rfl, _⟩ := dcore_local hts hx.1 hq
    refine Heap.kill_sets F ups s.h fun p hp => hF _ ?_
    have := (i1 p hp).1
    simp only [hids, List.mem_filterMap] at this
    obtain ⟨k, hk, hkk⟩ := this
    simp only [DG.frs, hts, Option.getD_some, List.mem_filterMap]
    refine ⟨k, hk, ?_⟩
    have := hx.2 k hk
    cases k with
    | fr s => exact hkk
    | «at» s => simp [HK.isFr] at this
    | keep s => simp [HK.isFr] at this
    | av s => simp [HK.isFr] at this
  · obtain ⟨rfl, _⟩ := dcore_light hx hq
    rfl

theorem runDr_slot {c : Cfg} {R : Rc} {base t : Nat} : ∀ (l : List DG) (s r : St), runDr c R base l s = some r → (∀ y, y ∈ l → otherD y.g.d (some t) = true) → r.e.getD t .junk = s.e.getD t .junk
  | [], s, r, h, _ => by cases h; rfl
  | y :: l, s, r, h, hy => by
    simp only [runDr] at h
    split at h <;> try (cases h; done)
    rename_i s1 h1
    rw [runDr_slot l s1 r h fun z hz => hy z (by simp [hz])]
    unfold dstep at h1
    simp only [Option.map_eq_some_iff] at h1
    obtain ⟨p, _, rfl⟩ := h1
    refine put_getD fun e => ?_
    have := hy y (by simp)
    rw [e] at this
    simp [otherD] at this

theorem runDr_append {c : Cfg} {R : Rc} {base : Nat} {l2 : List DG} : ∀ (l : List DG) (s s1 : St), runDr c R base l s = some s1 → runDr c R base (l ++ l2) s = runDr c R base l2 s1
  | [], s, s1, h => by cases h; rfl
  | y :: l, s, s1, h => by
    simp only [runDr, List.cons_append] at h ⊢
    split at h <;> try (cases h; done)
    rename_i s2 h1
    exact runDr_append l s2 s1 h

theorem runDrP_spec {c : Cfg} {R : Rc} {base : Nat} {all : List DG} {d : D} : ∀ (l : List DG) (i : Nat) (s : St), runDrP c R base all i l s = some d → ∃ T1 x T2 s', l = T1 ++ x :: T2 ∧ runDr c R base T1 s = some s' ∧ panTail c R base all (i + T1.length) x T2 s' = some d
  | [], i, s, h => by cases h
  | y :: l, i, s, h => by
    simp only [runDrP] at h
    split at h
    · rename_i s1 h1
      obtain ⟨T1, x, T2, s', rfl, j2, j3⟩ := runDrP_spec l (i + 1) s1 h
      refine ⟨y :: T1, x, T2, s', rfl, by simp only [runDr, h1]; exact j2, ?_⟩
      rw [List.length_cons, show i + (T1.length + 1) = i + 1 + T1.length by omega]
      exact j3
    · exact ⟨[], y, l, s, rfl, rfl, h⟩

theorem Sim.dead {C : Cx} {K : Ctx} {h : Heap} {w : World} (s : Sim C K h w) (F : List Nat) : Sim C K (h.kill F) w := by
  induction F generalizing h with
  | nil => exact s
  | cons k F ih => exact ih (s.dropA k)

theorem pan_any (hR : RSound P pg n R) {c : Cfg} (hc : c.pg = pg) {base : Nat} {ops : Array Oper} {gs : List G} {xs : List DG} (hgs : Gs.of P c.N ops ops.toList = some gs) (hxs : xs.map (·.g) = gs) (hok : okDraw P ops.toList xs = true)
    {C : Cx} (hC : IsC P pg C) {rb : Option Nat} {m : Nat} {QQ : Exit → Act → World → Prop} {i0 t : Nat} (hi0 : i0 < ops.size) {q0 : Cl} (hq0 : (xs.getD i0 dflt).g.o = .inr q0) (hg0 : (xs.getD i0 dflt).g.g = none) (hd0 : (xs.getD i0 dflt).g.d = some t)
    {F : List Nat} {hF : Heap} {e0 eF : List D} {ds : List Nat} (hds : ∀ i, i < ops.size → ∀ t, (xs.getD i dflt).g.d = some t → t ∈ ds) (heF : ∀ t, (t ∈ ds → eF.getD t .junk = .junk) ∧ (t ∉ ds → eF.getD t .junk = e0.getD t .junk)) (heN : eF.length = c.N) (htN : t < c.N)
    (hfresh : ∀ i, i < ops.size → ((masks ops.toList []).getD i 0).testBit i0 = false → (xs.getD i dflt).fresh = true ∧ (∀ k, k ∈ (xs.getD i dflt).frs base → k ∈ F) ∧ (i ≠ i0 → otherD (xs.getD i dflt).g.d (some t) = true)) {df0 : List Df} {r : St}
    (xs' : Nat → DG) (hxs' : xs' = fun i => if i = i0 then { xs.getD i dflt with pn := true } else xs.getD i dflt) :
    ∀ (fuel : Nat) (listed : Array Bool) (s : St) (K : Ctx) (a : Act) (w : World), listed.size = ops.size → (∀ m, listed.getD m false = true → ∀ j, j < ops.size → ((masks ops.toList []).getD m 0).testBit j = true → listed.getD j false = true) → listed.getD i0 false = false → ((masks ops.toList []).getD i0 0).testBit i0 = false →
      (leftP ops.size listed fun i => ((masks ops.toList []).getD i 0).testBit i0).length ≤ fuel → RndOk K c.r rb → Sim C K s.h w → Fd K c.N s a → runDr c R base ((leftP ops.size listed fun i => ((masks ops.toList []).getD i 0).testBit i0).map xs') s = some r →
      s.h.kill F = hF → s.df = df0 → (∀ t, t ∉ ds → s.e.getD t .junk = e0.getD t .junk) → Post C K c.N (.pan (r.e.getD t .junk)) { e := eF, h := hF, df := df0 } QQ → wpAnyIn (Fe P rb) m P .any ops QQ fuel listed a w := by
  obtain ⟨hlen, hget⟩ := Gs.of_get _ _ hgs
  have hok' := okDraw_spec (P := P) hok
  have hdeps : ∀ o d (listed : Array Bool), (∀ x ∈ o.after, Region.binds .any x = true → listed.getD x.on false = true) → d ∈ depsOf o → listed.getD d false = true := fun o d listed h hd => by
    simp only [depsOf, List.mem_map, List.mem_filter] at hd
    obtain ⟨x, ⟨hx, hb⟩, rfl⟩ := hd
    exact h x (by simpa using hx) hb
  intro fuel
  induction fuel with
  | zero =>
    intro listed s K a w hs hcl hl0 hself hf
    exfalso
    have : i0 ∈ leftP ops.size listed fun i => ((masks ops.toList []).getD i 0).testBit i0 := List.mem_filter.2 ⟨List.mem_range.2 hi0, by show (!listed.getD i0 true && !((masks ops.toList []).getD i0 0).testBit i0) = true; rw [getD_dflt (by omega) true false, hl0, hself]; rfl⟩
    have hl : leftP ops.size listed (fun i => ((masks ops.toList []).getD i 0).testBit i0) = [] := List.eq_nil_of_length_eq_zero (by omega)
    rw [hl] at this; cases this
  | succ fuel ih =>
    intro listed s K a w hs hcl hl0 hself hf hrb hsim hfd hq hkill hdf hse hp
    refine ⟨fun hrd => ?_, fun i hi => ?_⟩
    · exfalso
      have all : ∀ i, i < ops.size → listed.getD i false = true := by
        intro i
        induction i using Nat.strongRecOn with
        | _ i ihh =>
          intro hi
          obtain ⟨o, ho, hd, _⟩ := hok' i hi
          cases hu : listed.getD i false with
          | true => rfl
          | false =>
            have : i ∈ Region.ready .any ops listed := mem_ready.2 ⟨by rw [getD_dflt (by omega) true false]; exact hu, o, ho, fun x hx hb => by
              have hlt := hd x.on (by simp only [depsOf, List.mem_map, List.mem_filter]; exact ⟨x, ⟨by simpa using hx, hb⟩, rfl⟩)
              exact ihh x.on hlt (by omega)⟩
            rw [hrd] at this; cases this
      rw [all i0 hi0] at hl0; cases hl0
    · obtain ⟨hu, o, ho, hafter⟩ := mem_ready.1 hi
      have hlt : i < ops.size := (Array.getElem?_eq_some_iff.1 ho).1
      obtain ⟨o', ho', _, hfree, hclose, _, hpn⟩ := hok' i hlt
      rw [ho] at ho'; cases ho'
      have hdone : ∀ j, j < ops.size → ((masks ops.toList []).getD i 0).testBit j = true → listed.getD j false = true := fun j hj hb => by
        rcases hclose j hj hb with hd | ⟨d, hd, hb'⟩
        · exact hdeps o j listed hafter hd
        · exact hcl d (hdeps o d listed hafter hd) j hj hb'
      have hnd : ((masks ops.toList []).getD i 0).testBit i0 = false := by
        cases hb : ((masks ops.toList []).getD i 0).testBit i0 with
        | false => rfl
        | true => rw [hdone i0 hi0 hb] at hl0; cases hl0
      obtain ⟨A, B, h1, h2, h3⟩ := leftP_split (dep := fun i => ((masks ops.toList []).getD i 0).testBit i0) hlt hs hu hnd
      rw [h1, List.map_append, List.map_cons] at hq
      have hfree' : ∀ j, (xs' i).free (xs' j) = (xs.getD i dflt).free (xs.getD j dflt) := fun j => by
        subst hxs'
        simp only
        split <;> split <;> rfl
      obtain ⟨s1, hq1, hq2⟩ := runDr_front _ _ (fun g hg' => by
        rw [List.mem_map] at hg'
        obtain ⟨j, hj, rfl⟩ := hg'
        obtain ⟨hji, hju⟩ := h3 j hj
        rw [hfree']
        rcases hfree j hji with hb | hb
        · have := hdone j (by omega) hb
          rw [getD_dflt (by omega) false true, hju] at this; cases this
        · exact hb) hq
      obtain ⟨g, hgi, hgof⟩ := hget i o (by simpa using ho)
      have hlook : (xs.getD i dflt).g = g := by
        rw [← hxs] at hgi
        simp only [List.getElem?_map, Option.map_eq_some_iff] at hgi
        obtain ⟨x, hx, hx1⟩ := hgi
        simp only [List.getD, hx, Option.getD_some, hx1]
      obtain ⟨f1, f2, f3⟩ := hfresh i hlt hnd
      by_cases hii : i = i0
      · subst hii
        have hx0 : xs' i = { xs.getD i dflt with pn := true } := by subst hxs'; simp
        rw [hx0] at hq1
        refine one_pan hR hc hC ho (x := { xs.getD i dflt with pn := true }) (by show G.of P c.N ops o = some (xs.getD i dflt).g; rw [hlook]; exact hgof) rfl hg0 hq0 hq1 hrb hsim hfd fun d hs1 K' a' w' ex k1 k2 k3 k4 => ?_
        have hd : r.e.getD t .junk = d := by
          rw [runDr_slot _ _ _ hq2 fun y hy => ?_]
          · rw [hs1]
            show (put s.e (xs.getD i dflt).g.d d).getD t .junk = d
            rw [hd0]
            have : t < s.e.length := by rw [hfd.fr.len]; exact htN
            simp [put, List.getD, this]
          · rw [← List.map_append, ← h2, List.mem_map] at hy
            obtain ⟨j, hj, rfl⟩ := hy
            rw [leftP, List.mem_filter, List.mem_range, Bool.and_eq_true] at hj
            have hji : j ≠ i := fun e => by
              subst e
              have := hj.2.1
              simp [Array.getD_eq_getD_getElem?, hs, hlt] at this
            have : xs' j = xs.getD j dflt := by subst hxs'; simp [hji]
            rw [this]
            exact (hfresh j hj.1 (by simpa using hj.2.2)).2.2 hji
        rw [hd] at hp
        refine hp K' a' w' ex k1 ?_ ⟨⟨k3.fr.size, heN, fun u hu => ?_⟩, by rw [← hdf]; exact k3.df⟩ k4
        · rw [← hkill]; exact k2.dead F
        · by_cases hud : u ∈ ds
          · rw [(heF u).1 hud]; exact .junk _
          · rw [(heF u).2 hud, ← hse u hud]; exact k3.fr.slots u hu
      · have hxi : xs' i = xs.getD i dflt := by subst hxs'; simp [hii]
        rw [hxi] at hq1
        obtain ⟨v1, v2, v3, v4⟩ := dstep_inv f1 f2 hq1
        refine one_sound hR hc hC ho (by rw [hlook]; exact hgof) hpn hq1 hrb hsim hfd fun K' a' w' k1 k2 k3 => ?_
        refine ih _ s1 K' a' w' (by simpa using hs) (fun m hm' j hj hb => ?_) (by rw [getD_set_ne false hii]; exact hl0) hself ?_ (hrb.mono k1) k2 k3 (by rw [h2, List.map_append]; exact hq2) (v1.trans hkill) (v2.trans hdf) (fun u hu => (v4 u fun e => hu (hds i hlt u e)).trans (hse u hu)) (hp.mono k1)
        · by_cases hmi : m = i
          · subst hmi
            exact getD_set_true (hdone j hj hb)
          · rw [getD_set_ne false (Ne.symm hmi)] at hm'
            exact getD_set_true (hcl m hm' j hj hb)
        · rw [h2]; rw [h1] at hf; simp only [List.length_append, List.length_cons] at hf ⊢; omega

theorem pan_sound (hR : RSound P pg n R) {c : Cfg} (hc : c.pg = pg) {id : Nat} {ops : Array Oper} {gs : List G} {xs : List DG} (hgs : Gs.of P c.N ops ops.toList = some gs) (hxs : xs.map (·.g) = gs) (hok : okDraw P ops.toList xs = true)
    {C : Cx} (hC : IsC P pg C) {rb : Option Nat} {m : Nat} {QQ : Exit → Act → World → Prop} {s : St} {x : Ex} {s' : St} (hq : ((runDrP c R s.h.next xs 0 xs { s with h := s.h.bump c.N }).map fun d => (Ex.pan d, panSt s.h.next c.N xs s)) = some (x, s')) {K : Ctx} {a : Act} {w : World} (hrb : RndOk K c.r rb) (hs : Sim C K s.h w) (hf : Fd K c.N s a) (hp : Post C K c.N x s' QQ) :
    (Code.region id ops true).wpIn (Fe P rb) m P QQ a w := by
  simp only [Option.map_eq_some_iff, Prod.mk.injEq] at hq
  obtain ⟨d, hq, rfl, rfl⟩ := hq
  have hok' := okDraw_spec (P := P) hok
  have hln : xs.length = ops.size := by
    have := congrArg List.length hxs
    rw [List.length_map, (Gs.of_get _ _ hgs).1] at this
    simpa using this
  refine wpIn_region_any (by simp only [okDraw, Bool.and_eq_true] at hok; exact hok.1) ?_
  obtain ⟨T1, x, T2, s1, hx, hr1, hpt⟩ := runDrP_spec _ _ _ hq
  rw [Nat.zero_add] at hpt
  have hi0 : T1.length < ops.size := by rw [← hln, hx]; simp
  have hxi : xs.getD T1.length dflt = x := by rw [hx]; simp [List.getD]
  unfold panTail at hpt
  split at hpt <;> try (cases hpt; done)
  rename_i q0 t hq0 hg0 hd0
  split at hpt <;> try (cases hpt; done)
  rename_i hcond
  simp only [Option.map_eq_some_iff] at hpt
  obtain ⟨r, hrun, rfl⟩ := hpt
  simp only [Bool.and_eq_true, List.all_eq_true, decide_eq_true_eq] at hcond
  obtain ⟨⟨c1, c2⟩, c3⟩ := hcond
  have mask_lt : ∀ i, i < ops.size → ∀ j, j < ops.size → ((masks ops.toList []).getD i 0).testBit j = true → j < i := by
    intro i
    induction i using Nat.strongRecOn with
    | _ i ih =>
      intro hi j hj hb
      obtain ⟨o, _, k1, _, k2, _⟩ := hok' i hi
      rcases k2 j hj hb with k | ⟨d, kd, k⟩
      · exact k1 j k
      · have := k1 d kd
        have := ih d this (by omega) j hj k
        omega
  have hself : ((masks ops.toList []).getD T1.length 0).testBit T1.length = false := by
    cases hb : ((masks ops.toList []).getD T1.length 0).testBit T1.length with
    | false => rfl
    | true => have := mask_lt _ hi0 _ hi0 hb; omega
  have hmem : ∀ i, i < ops.size → xs.getD i dflt ∈ xs := fun i hi => by
    have : i < xs.length := by omega
    simp [List.getD, List.getElem?_eq_getElem this]
  let xs' : Nat → DG := fun i => if i = T1.length then { xs.getD i dflt with pn := true } else xs.getD i dflt
  have hrange : ∀ (l : List Nat), (∀ i, i ∈ l → i < ops.size ∧ i ≠ T1.length) → (l.filter fun i => !((masks ops.toList []).getD i 0).testBit T1.length).map xs' = (l.map fun i => xs.getD i dflt).filter fun y => !y.wt.testBit T1.length := by
    intro l
    induction l with
    | nil => intro _; rfl
    | cons i l ih =>
      intro hl
      obtain ⟨k1, k2⟩ := hl i (by simp)
      obtain ⟨o, _, _, _, _, hw, _⟩ := hok' i k1
      have ihl := ih fun j hj => hl j (by simp [hj])
      simp only [List.map_cons]
      cases hb : ((masks ops.toList []).getD i 0).testBit T1.length with
      | true =>
        rw [List.filter_cons_of_neg (by rw [hb]; simp), List.filter_cons_of_neg (by rw [hw, hb]; simp)]
        exact ihl
      | false =>
        rw [List.filter_cons_of_pos (by rw [hb]; rfl), List.filter_cons_of_pos (by rw [hw, hb]; rfl), List.map_cons, ihl]
        simp only [xs', if_neg k2]
  have hx2 : T2 = (List.range' (T1.length + 1) (ops.size - T1.length - 1)).map fun i => xs.getD i dflt := by
    refine List.ext_getElem (by rw [List.length_map, List.length_range', ← hln, hx]; simp) fun j h1 h2 => ?_
    rw [List.getElem_map, List.getElem_range', hx]
    simp only [List.getD, Nat.one_mul]
    rw [List.getElem?_append_right (by omega), show T1.length + 1 + j - T1.length = j + 1 by omega]
    simp [List.getElem?_eq_getElem h1]
  have hx1 : T1 = (List.range T1.length).map fun i => xs.getD i dflt := by
    refine List.ext_getElem (by simp) fun j h1 h2 => ?_
    rw [List.getElem_map, List.getElem_range, hx]
    simp only [List.getD]
    rw [List.getElem?_append_left h1]
    simp [List.getElem?_eq_getElem h1]
  have hleft : (leftP ops.size (Array.replicate ops.size false) fun i => ((masks ops.toList []).getD i 0).testBit T1.length).map xs' = T1 ++ { x with pn := true } :: T2.filter fun y => !y.wt.testBit T1.length := by
    have e1 : leftP ops.size (Array.replicate ops.size false) (fun i => ((masks ops.toList []).getD i 0).testBit T1.length) = (List.range ops.size).filter fun i => !((masks ops.toList []).getD i 0).testBit T1.length := by
      refine List.filter_congr fun i hi => ?_
      have := List.mem_range.1 hi
      simp [Array.getD_eq_getD_getElem?, this]
    rw [e1, range_split hi0, List.filter_append, List.filter_cons_of_pos (by rw [hself]; rfl), List.map_append, List.map_cons]
    have e2 : xs' T1.length = { x with pn := true } := by simp only [xs', if_true]; rw [hxi]
    rw [e2]
    congr 1
    · rw [List.filter_eq_self.2 fun i hi => ?_]
      · conv => rhs; rw [hx1]
        refine List.map_congr_left fun i hi => ?_
        have := List.mem_range.1 hi
        simp only [xs', if_neg (show i ≠ T1.length by omega)]
      · have := List.mem_range.1 hi
        cases hb : ((masks ops.toList []).getD i 0).testBit T1.length with
        | false => rfl
        | true => have := mask_lt i (by omega) _ hi0 hb; omega
    · congr 1
      rw [hrange _ fun i hi => by have := List.mem_range'_1.1 hi; omega, ← hx2]
  have hgete : ∀ (l : List DG) (e : List D) (u : Nat), (u ∈ (l.filterMap fun y => y.g.d) → (l.foldl (fun e x => put e x.g.d .junk) e).getD u .junk = .junk) ∧ (u ∉ (l.filterMap fun y => y.g.d) → (l.foldl (fun e x => put e x.g.d .junk) e).getD u .junk = e.getD u .junk) := by
    intro l
    induction l with
    | nil => intro e u; exact ⟨fun h => (by cases h), fun _ => rfl⟩
    | cons y l ih =>
      intro e u
      simp only [List.foldl_cons]
      obtain ⟨k1, k2⟩ := ih (put e y.g.d .junk) u
      refine ⟨fun h => ?_, fun h => ?_⟩
      · by_cases hu : u ∈ l.filterMap fun y => y.g.d
        · exact k1 hu
        · rw [k2 hu]
          cases hd : y.g.d with
          | none => rw [List.filterMap_cons, hd] at h; exact absurd h hu
          | some v =>
            rw [List.filterMap_cons, hd] at h
            have : u = v := by rcases List.mem_cons.1 h with h | h; exact h; exact absurd h hu
            subst this
            simp only [put, List.getD_eq_getElem?_getD, List.getElem?_set]
            by_cases hul : u < e.length <;> simp [hul]
      · have hu : u ∉ l.filterMap fun y => y.g.d := fun x => h (by rw [List.filterMap_cons]; cases y.g.d <;> simp [x])
        rw [k2 hu]
        refine put_getD fun e => h ?_
        rw [List.filterMap_cons, e]; simp
  have hlen : ∀ (l : List DG) (e : List D), (l.foldl (fun e x => put e x.g.d .junk) e).length = e.length := by
    intro l
    induction l with
    | nil => intro e; rfl
    | cons y l ih => intro e; simp only [List.foldl_cons, ih]; cases y.g.d <;> simp [put]
  refine pan_any hR hc (base := s.h.next) (t := t) (F := xs.flatMap (DG.frs s.h.next)) (hF := (s.h.bump c.N).kill (xs.flatMap (DG.frs s.h.next))) (e0 := s.e) (eF := xs.foldl (fun e x => put e x.g.d .junk) s.e) (ds := xs.filterMap fun y => y.g.d) (df0 := s.df) (r := r) hgs hxs hok hC hi0 (by rw [hxi]; exact hq0) (by rw [hxi]; exact hg0) (by rw [hxi]; exact hd0)
    (fun i hi u hu => List.mem_filterMap.2 ⟨_, hmem i hi, hu⟩) (fun u => hgete xs s.e u) (by rw [hlen]; exact hf.fr.len) ?_ (fun i hi hb => ?_) xs' rfl ops.size _ { s with h := s.h.bump c.N } K a _ (by simp) (fun k hk j hj hb => ?_) ?_ hself ?_ hrb ((hs.bump _).drawn _) ⟨hf.fr, hf.df⟩ ?_ rfl rfl (fun u _ => rfl) ?_
  · have : ∀ (b : Nat) (l : List DG) (s s1 : St), runDr c R b l s = some s1 → s1.e.length = s.e.length := by
      intro b l
      induction l with
      | nil => intro s s1 h; cases h; rfl
      | cons y l ih =>
        intro s s1 h
        simp only [runDr] at h
        split at h <;> try (cases h; done)
        rename_i s2 h2
        rw [ih s2 s1 h]
        unfold dstep at h2
        simp only [Option.map_eq_some_iff] at h2
        obtain ⟨p, _, rfl⟩ := h2
        cases y.g.d <;> simp [put]
    have h1 := this _ _ _ _ hr1
    have h2 : s.e.length = c.N := hf.fr.len
    have h3 : s1.e.length = s.e.length := h1
    omega
  · obtain ⟨o, _, _, _, _, hw, _⟩ := hok' i hi
    have hm := hmem i hi
    refine ⟨c1 _ (List.mem_filter.2 ⟨hm, by rw [hw, hb]; rfl⟩), fun k hk => List.mem_flatMap.2 ⟨_, hm, hk⟩, fun hne => c2 _ (List.mem_append.2 ?_)⟩
    rcases Nat.lt_or_gt_of_ne hne with hlt | hgt
    · left
      rw [hx]
      rw [List.take_left' rfl]
      have : (T1 ++ x :: T2).getD i dflt = T1[i] := by simp [List.getD, List.getElem?_append_left hlt, List.getElem?_eq_getElem hlt]
      rw [this]
      exact List.getElem_mem _
    · right
      refine List.mem_filter.2 ⟨?_, by rw [hw, hb]; rfl⟩
      rw [hx2, List.mem_map]
      exact ⟨i, List.mem_range'_1.2 (by omega), rfl⟩
  · simp only [Array.getD_eq_getD_getElem?, Array.getElem?_replicate] at hk
    split at hk <;> simp at hk
  · simp [Array.getD_eq_getD_getElem?, hi0]
  · exact Nat.le_trans (List.length_filter_le _ _) (by simp)
  · rw [hleft, runDr_append _ _ _ hr1]; exact hrun
  · exact hp

theorem draw_sound (hR : RSound P pg n R) {c : Cfg} (hc : c.pg = pg) {id : Nat} {ops : Array Oper} {gs : List G} {xs : List DG} (hgs : Gs.of P c.N ops ops.toList = some gs) (hxs : xs.map (·.g) = gs) (hok : okDraw P ops.toList xs = true)
    {C : Cx} (hC : IsC P pg C) {rb : Option Nat} {m : Nat} {QQ : Exit → Act → World → Prop} {s : St} {x : Ex} {s' : St} (hq : (Cd.draw xs).ev c R s = some (x, s')) {K : Ctx} {a : Act} {w : World} (hrb : RndOk K c.r rb) (hs : Sim C K s.h w) (hf : Fd K c.N s a) (hp : Post C K c.N x s' QQ) :
    (Code.region id ops true).wpIn (Fe P rb) m P QQ a w := by
  simp only [Cd.ev] at hq
  split at hq
  rotate_left
  · exact pan_sound hR hc hgs hxs hok hC hq hrb hs hf hp
  rename_i s1 hq1
  simp only [Option.some.injEq, Prod.mk.injEq] at hq
  obtain ⟨rfl, rfl⟩ := hq
  have hq := hq1
  refine wpIn_region_any (by simp only [okDraw, Bool.and_eq_true] at hok; exact hok.1) ?_
  have hln : xs.length = ops.size := by
    have := congrArg List.length hxs
    rw [List.length_map, (Gs.of_get _ _ hgs).1] at this
    simpa using this
  have hleft : left ops.size (Array.replicate ops.size false) = List.range ops.size := by
    refine List.filter_eq_self.2 fun i hi => ?_
    have := List.mem_range.1 hi
    simp [Array.getD_eq_getD_getElem?, this]
  have hall : (List.range ops.size).map (fun i => xs.getD i dflt) = xs := by
    refine List.ext_getElem (by simp [hln]) fun i h1 h2 => ?_
    simp [List.getD, List.getElem?_eq_getElem h2]
  refine any_sound hR hc (base := s.h.next) hgs hxs hok hC ops.size _ { s with h := s.h.bump c.N } K a _ (by simp) (fun k hk j hj hb => ?_) (by rw [hleft]; simp) hrb ((hs.bump _).drawn _) ⟨hf.fr, hf.df⟩ (by rw [hleft, hall]; exact hq) hp
  simp only [Array.getD_eq_getD_getElem?, Array.getElem?_replicate] at hk
  split at hk <;> simp at hk
end
end Go.Em
