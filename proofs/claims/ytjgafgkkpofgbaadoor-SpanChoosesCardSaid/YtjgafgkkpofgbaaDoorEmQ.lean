/- Code does what the evaluator says. -/
import Derived.Test.YtjgafgkkpofgbaaDoorEmP
namespace Go.Em
open Go Go.RowKit

theorem Fd.skip {K : Ctx} {N : Nat} {s : St} {a : Act} (f : Fd K N s a) (t : Option Nat) : Fd K N { s with e := put s.e t (.tup []) } (a.put t undef) :=
  ⟨f.fr.put t (.tup [] [] .nil), by cases t <;> exact f.df⟩

theorem guard_wanted {K : Ctx} {N : Nat} {ops : Array Oper} {o : Oper} {g : Option (Nat × Bool)} (hg : guardOf ops N o.guard = some g) {s : St} {a : Act} (f : Fd K N s a) {d : Option Nat} {q : M ⊕ Cl} {b : Bool} (hw : (G.mk g d q).want s.e = some b) :
    Region.wanted o (yielded ops a.tmps) = b := by
  cases hgu : o.guard with
  | none =>
    rw [hgu] at hg
    cases hg
    cases hw
    simp [Region.wanted, hgu]
  | some jw =>
    obtain ⟨j, want⟩ := jw
    rw [hgu] at hg
    simp only [guardOf, Option.bind_eq_some_iff] at hg
    obtain ⟨d', ⟨o', ho', hd'⟩, hg⟩ := hg
    split at hg <;> cases hg
    rename_i hlt
    simp only [G.want] at hw
    split at hw <;> cases hw
    rotate_left
    · rename_i cs hb
      have hslot := f.fr.slots d' hlt
      rw [hb] at hslot
      have hlt' : d' < a.tmps.size := by rw [f.fr.size]; exact hlt
      obtain ⟨us, hus⟩ : ∃ us, a.tmps.getD d' undef = .tuple us := by
        generalize a.tmps.getD d' undef = v at hslot
        cases hslot with | tup vs _ _ => exact ⟨_, rfl⟩
      have hv' : a.tmps[d']? = some (.tuple us) := by
        rw [Array.getElem?_eq_getElem hlt']
        simp only [Array.getD_eq_getD_getElem?, Array.getElem?_eq_getElem hlt', Option.getD_some] at hus
        rw [hus]
      simp [Region.wanted, hgu, yielded, ho', hd', hv']
    rename_i b' hb
    have hslot := f.fr.slots d' hlt
    rw [hb] at hslot
    have hv := hslot.val_eq
    have hlt' : d' < a.tmps.size := by rw [f.fr.size]; exact hlt
    have hv' : a.tmps[d']? = some (.bool b') := by
      rw [Array.getElem?_eq_getElem hlt']
      simp only [Array.getD_eq_getD_getElem?, Array.getElem?_eq_getElem hlt', Option.getD_some] at hv
      rw [hv]
    simp [Region.wanted, hgu, yielded, ho', hd', hv']

section
variable {P : Program} {pg : Pg} {n : Nat} {R : Rc}

theorem gs_sound (hR : RSound P pg n R) {c : Cfg} (hc : c.pg = pg) {base : Nat} {ops : Array Oper} {C : Cx} (hC : IsC P pg C) {rb : Option Nat} {m : Nat} {QQ : Exit → Act → World → Prop} : ∀ (l : List Oper) (gs : List G), Gs.of P c.N ops l = some gs →
    ∀ (s : St) (x : Ex) (s' : St) (K : Ctx) (a : Act) (w : World), runG c R base gs s = some (x, s') → RndOk K c.r rb → Sim C K s.h w → Fd K c.N s a → Post C K c.N x s' QQ → wpListIn (Fe P rb) m P ops QQ l a w
  | [], gs, h, s, x, s', K, a, w, hq, hrb, hs, hf, hp => by
    simp only [Gs.of, Option.some.injEq] at h
    subst h
    simp only [runG, Option.some.injEq, Prod.mk.injEq] at hq
    obtain ⟨rfl, rfl⟩ := hq
    exact hp K a w .normal (.refl K) hs hf .normal
  | o :: l, gs, h, s, x, s', K, a, w, hq, hrb, hs, hf, hp => by
    simp only [Gs.of, Option.bind_eq_some_iff, Option.some.injEq] at h
    obtain ⟨g, hg, gs', hgs, rfl⟩ := h
    simp only [G.of, Option.bind_eq_some_iff] at hg
    obtain ⟨gu, hgu, hg⟩ := hg
    have hdst : g.d = o.dst ∧ g.g = gu := by
      split at hg
      · cases hg; exact ⟨rfl, rfl⟩
      · simp only [Option.map_eq_some_iff] at hg
        obtain ⟨q, _, rfl⟩ := hg; exact ⟨rfl, rfl⟩
    simp only [runG] at hq
    split at hq <;> try (cases hq; done)
    · rename_i hw
      have hwant := guard_wanted (K := K) (a := a) hgu hf (d := g.d) (q := g.o) (b := true) (by rw [← hdst.2]; exact hw)
      simp only [wpListIn, hwant, if_true]
      split at hq <;> try (cases hq; done)
      · -- it goes on
        rename_i d s1 hev
        split at hg
        · rename_i mm hm
          cases hg
          simp only [G.ev, Option.map_eq_some_iff, Op1.ok.injEq] at hev
          obtain ⟨⟨d0, h0⟩, hme, rfl, rfl⟩ := hev
          rw [hc, ← hC.hpg] at hme
          obtain ⟨v, w', K', hd, hle, hs', hv⟩ := mm.2.2 C K s.h h0 w s.e a _ d0 hC.hP hs hf.fr hme
          exact wpIn_did mm.2.1 hd (gs_sound hR hc hC l gs' hgs _ x s' K' _ w' hq (hrb.mono hle) hs' ⟨(hf.fr.mono hle).put o.dst hv, by have := hf.df.mono hle; cases hd : o.dst <;> exact this⟩ (hp.mono hle))
        · simp only [Option.map_eq_some_iff] at hg
          obtain ⟨q, hcl, rfl⟩ := hg
          refine cl_sound hR hc hcl (r := .ok d s1) hev hC hrb hs hf (fun d' s2 hr K' a' w' h1 h2 h3 => ?_) (fun d' s2 hr => by cases hr)
          cases hr
          exact gs_sound hR hc hC l gs' hgs _ x s' K' a' w' hq (hrb.mono h1) h2 h3 (hp.mono h1)
      · -- it panics
        rename_i d s1 hev
        simp only [Option.some.injEq, Prod.mk.injEq] at hq
        obtain ⟨rfl, rfl⟩ := hq
        split at hg
        · cases hg
          simp only [G.ev, Option.map_eq_some_iff] at hev
          obtain ⟨_, _, hev⟩ := hev; cases hev
        · simp only [Option.map_eq_some_iff] at hg
          obtain ⟨q, hcl, rfl⟩ := hg
          refine cl_sound hR hc hcl (r := .pan d s1) hev hC hrb hs hf (fun d' s2 hr => by cases hr) (fun d' s2 hr K' a' w' ex h1 h2 h3 h4 => ?_)
          cases hr
          exact hp K' a' w' ex h1 h2 h3 h4
    · rename_i hw
      have hwant := guard_wanted (K := K) (a := a) hgu hf (d := g.d) (q := g.o) (b := false) (by rw [← hdst.2]; exact hw)
      simp only [wpListIn, hwant, Bool.false_eq_true, if_false]
      have hab : ∀ f, o.about P w a.eval = some f → (Fe P rb).fn f := fun f hab => by
        split at hg
        · rename_i mm hm
          rw [plain_about mm.2.1] at hab; cases hab
        · simp only [Option.map_eq_some_iff] at hg
          obtain ⟨q, hcl, rfl⟩ := hg
          have hgn : o.guard ≠ none := fun e => by
            rw [e] at hgu
            cases hgu
            cases hw
          unfold Cl.of at hcl
          split at hcl
          · rename_i cc hop
            split at hcl
            · rename_i f' hcal
              split at hcl <;> try (cases hcl; done)
              rename_i hsome
              have hres : (resolve a.eval cc o.type).run P w = .ok { target := .fn (.func f') #[], args := cc.args.map a.eval } w := by
                simp [resolve, hcal, Act.eval, Deferred.ofValue]
              simp only [Oper.about, hop, hres, Target.leads, Option.some.injEq] at hab
              rw [← hab]; exact hsome
            · split at hcl <;> try (cases hcl; done)
              rename_i hn
              cases hgg : o.guard with
              | none => exact absurd hgg hgn
              | some _ => rw [hgg] at hn; simp at hn
            · rename_i hcal
              have hpl : opPlain o.op = true := by rw [hop]; simp [opPlain, hcal]
              rw [plain_about hpl] at hab; cases hab
            · cases hcl
          · rename_i cc hop
            simp [Oper.about, hop] at hab
          · rename_i x hop
            simp [Oper.about, hop] at hab
          · cases hcl
      refine ⟨hab, gs_sound hR hc hC l gs' hgs _ x s' K _ w hq hrb hs ?_ hp⟩
      rw [hdst.1]; exact hf.skip o.dst
end
end Go.Em
