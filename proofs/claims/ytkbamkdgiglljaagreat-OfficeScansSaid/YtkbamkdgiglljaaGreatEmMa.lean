/- Freezing what stands in the heap. -/
import Derived.Test.YtkbamkdgiglljaaGreatEmL
import Derived.RangeFuncNested
import Derived.RangeFuncLeaves
import Derived.RecoverIn
import Derived.LoopNIn
import Derived.TacticsIn
import Derived.Laws.IdiomStrings
namespace Go.Em
open Go Go.RowKit


def inS (K : Ctx) (h : Heap) (S : List Nat) (b : Nat) : Prop := ∃ k B n, k ∈ S ∧ h.get k = some B ∧ K.loc k = some (b, n)
open Classical in
noncomputable def Ctx.more (K : Ctx) (h : Heap) (w : World) (S : List Nat) : Ctx where
  cell := fun b o => match K.cell b o with
    | some v => some v
    | none => if inS K h S b then w.cell? ⟨b, o, none⟩ else none
  obj := fun b => match K.obj b with
    | some v => some v
    | none => if inS K h S b then (match w.heap[b]? with | some (.map es c) => some (.map es c) | _ => none) else none
  loc := K.loc

section
variable {C : Cx} {K : Ctx} {h : Heap} {w : World} {S : List Nat}
theorem more_le : K.le (K.more h w S) := ⟨fun b o v x => by simp [Ctx.more, x], fun b o x => by simp [Ctx.more, x], fun _ _ x => x⟩
theorem more_cell {b o : Nat} {v : Value} (x : (K.more h w S).cell b o = some v) : K.cell b o = some v ∨ (K.cell b o = none ∧ inS K h S b ∧ w.cell? ⟨b, o, none⟩ = some v) := by
  simp only [Ctx.more] at x
  split at x
  · rename_i u hu; cases x; exact .inl hu
  · rename_i hu
    split at x
    · rename_i hs; exact .inr ⟨hu, hs, x⟩
    · cases x
theorem more_obj {b : Nat} {v : Obj} (x : (K.more h w S).obj b = some v) : K.obj b = some v ∨ (inS K h S b ∧ w.heap[b]? = some v ∧ ∃ es c, v = .map es c) := by
  simp only [Ctx.more] at x
  split at x
  · rename_i u hu; cases x; exact .inl hu
  · split at x
    · rename_i hs
      split at x
      · rename_i es c hw; cases x; exact .inr ⟨hs, hw, es, c, rfl⟩
      · cases x
    · cases x
theorem inS_lt (s : Sim C K h w) {b : Nat} (x : inS K h S b) : C.w0.heap.size ≤ b ∧ b < w.heap.size := by
  obtain ⟨k, B, n, _, h2, h3⟩ := x
  obtain ⟨b', n', O, i1, i2, i3, _⟩ := s.live k B h2
  rw [h3] at i1; cases i1
  exact ⟨i2, (Array.getElem?_eq_some_iff.1 i3).1⟩

theorem kill_get : ∀ (S : List Nat) (h : Heap) (k : Nat) (B : Blk), (h.kill S).get k = some B → k ∉ S ∧ h.get k = some B
  | [], h, k, B, x => ⟨by simp, x⟩
  | j :: S, h, k, B, x => by
    obtain ⟨h1, h2⟩ := kill_get S _ k B x
    by_cases hk : k = j
    · subst hk; have h2 := Heap.get_set_sm h2; cases h2
    · rw [Heap.get_set_ne _ _ hk] at h2
      exact ⟨by simp [hk, h1], h2⟩
theorem kill_raw : ∀ (S : List Nat) (h : Heap) (k : Nat), (h.kill S).raw k = none → h.raw k = none
  | [], h, k, x => x
  | j :: S, h, k, x => by
    have := kill_raw S _ k x
    by_cases hk : k = j
    · subst hk; rw [Heap.raw_set_same] at this; cases this
    · rwa [Heap.raw_set_ne _ _ hk] at this

theorem Sim.freeze (s : Sim C K h w) (S : List Nat) : Sim C (K.more h w S) (h.kill S) w := by
  refine ⟨⟨s.ext.le.trans more_le.lep, fun b o v x hb => ?_, fun b o x hb => ?_⟩, fun g cs x => (s.glob g cs x).mono more_le, s.below, fun b o v x => ?_, fun b o x => ?_, fun k B x => ?_, fun k k' B B' b n n' x x' y y' => ?_, fun k x => s.fresh k (kill_raw S h k x), fun k cs x => s.froz_mono more_le k cs (by
    rw [Heap.kill_fzd] at x
    split at x
    · cases x
    · exact x), fun k cs x => ?_, fun k k' cs cs' b n n' x x' y y' => ?_⟩
  · rcases more_cell x with x | ⟨_, x, _⟩
    · exact s.ext.cell b o v x hb
    · have := (inS_lt s x).1; omega
  · rcases more_obj x with x | ⟨x, _⟩
    · exact s.ext.obj b o x hb
    · have := (inS_lt s x).1; omega
  · rcases more_cell x with x | ⟨_, x, y⟩
    · exact s.cells b o v x
    · exact ⟨(inS_lt s x).2, y⟩
  · rcases more_obj x with x | ⟨_, x, y⟩
    · exact s.objs b o x
    · exact ⟨x, y⟩
  · obtain ⟨hk, hB⟩ := kill_get S h k B x
    obtain ⟨b, n, O, i1, i2, i3, i4, i5, i6⟩ := s.live k B hB
    have hno : ¬ inS K h S b := fun ⟨k', B', n', h1, h2, h3⟩ => by
      have := s.inj k k' B B' b n n' hB h2 i1 h3
      subst this; exact hk h1
    refine ⟨b, n, O, i1, i2, i3, i4.mono more_le, fun o => ?_, ?_⟩
    · simp [Ctx.more, i5, hno]
    · simp [Ctx.more, i6, hno]
  · obtain ⟨_, h1⟩ := kill_get S h k B x
    obtain ⟨_, h2⟩ := kill_get S h k' B' x'
    exact s.inj k k' B B' b n n' h1 h2 y y'
  · obtain ⟨x1, _⟩ := Heap.vget_of_kill S h x
    obtain ⟨b, n, us, vs, ty, i1, i2, i3, i4, i5, i6, i7, i8, i9⟩ := s.vw k cs x1
    have hno : ¬ inS K h S b := fun ⟨k', B', n', h1, h2, h3⟩ => i9 k' B' n' h2 h3
    refine ⟨b, n, us, vs, ty, i1, i2, i3, i4.mono more_le, i5, i6, fun o => ?_, ?_, fun j B m y z => i9 j B m (kill_get S h j B y).2 z⟩
    · simp [Ctx.more, i7, hno]
    · simp [Ctx.more, i8, hno]
  · obtain ⟨x1, x2⟩ := Heap.vget_of_kill S h x
    obtain ⟨z1, z2⟩ := Heap.vget_of_kill S h x'
    rcases s.vj k k' cs cs' b n n' x1 z1 y y' with e | ⟨t1, c1, t2, c2, r1, r2⟩ | ⟨t1, c1, t2, c2, r1, r2⟩
    · exact .inl e
    · exact .inr (.inl ⟨t1, c1, t2, c2, x2 _ r1, z2 _ r2⟩)
    · exact .inr (.inr ⟨t1, c1, t2, c2, z2 _ r1, x2 _ r2⟩)

theorem each_spec {f : D → Option (D × List Nat)} : ∀ {l l' : List D} {ks : List Nat}, each f l = some (l', ks) → l'.length = l.length ∧ ∀ (i : Nat) (d : D), l[i]? = some d → ∃ d' a, f d = some (d', a) ∧ l'[i]? = some d' ∧ ∀ k, k ∈ a → k ∈ ks
  | [], l', ks, h => by simp only [each, Option.some.injEq, Prod.mk.injEq] at h; obtain ⟨rfl, rfl⟩ := h; exact ⟨rfl, fun i d x => by simp at x⟩
  | d :: l, l', ks, h => by
    simp only [each] at h
    split at h <;> cases h
    rename_i d' a l'' b h1 h2
    obtain ⟨i1, i2⟩ := each_spec h2
    refine ⟨by simp [i1], fun i e x => ?_⟩
    cases i with
    | zero => simp at x; subst x; exact ⟨d', a, h1, rfl, fun k hk => by simp [hk]⟩
    | succ i =>
      obtain ⟨e', a', j1, j2, j3⟩ := i2 i e (by simpa using x)
      exact ⟨e', a', j1, by simpa using j2, fun k hk => by simp [j3 k hk]⟩
mutual
theorem canon_pure : ∀ (d : D), d.canon = true → d.pure = true
  | .val _, _ | .junk, _ => rfl
  | .agg cs, h | .tup cs, h | .eref cs, h => canonL_pure cs h
  | .sl z cs, h => by simp only [D.canon, Bool.and_eq_true] at h; exact canonL_pure cs h.2
  | .fn _ fs cs, h => by
    simp only [D.canon, Bool.and_eq_true] at h
    simp only [D.pure, canonL_pure fs h.1, canonL_pure cs h.2, Bool.and_self]
  | .map es, h => canonE_pure es h
  | .iface _ d, h => canon_pure d h
  | .ptr .., h | .slr .., h | .mapr _, h | .yld _, h => by simp [D.canon] at h
theorem canonL_pure : ∀ (l : List D), D.canonL l = true → D.pureL l = true
  | [], _ => rfl
  | d :: l, h => by
    simp only [D.canonL, Bool.and_eq_true] at h
    simp only [D.pureL, canon_pure d h.1, canonL_pure l h.2, Bool.and_self]
theorem canonE_pure : ∀ (l : List (D × D)), D.canonE l = true → D.pureE l = true
  | [], _ => rfl
  | (k, v) :: l, h => by
    simp only [D.canonE, Bool.and_eq_true] at h
    simp only [D.pureE, canon_pure k h.1.1, canon_pure v h.1.2, canonE_pure l h.2, Bool.and_self]
end

theorem chunk_spec (sz : Nat) (h0 : 0 < sz) : ∀ (m : Nat) (l : List D), (∀ d, d ∈ l → d.cells = [d]) → l.length = m * sz → (chunk sz m l).length = m ∧ (chunk sz m l).flatMap D.cells = l ∧ ∀ e, e ∈ chunk sz m l → e.cells.length = sz
  | 0, l, _, h => by
    have : l = [] := List.eq_nil_of_length_eq_zero (by simpa using h)
    subst this; simp [chunk]
  | m + 1, l, hl, h => by
    have h' : l.length = m * sz + sz := by rw [h, Nat.add_mul, Nat.one_mul]
    obtain ⟨i1, i2, i3⟩ := chunk_spec sz h0 m (l.drop sz) (fun d hd => hl d (List.mem_of_mem_drop hd)) (by rw [List.length_drop]; omega)
    by_cases h1 : sz = 1
    · subst h1
      cases l with
      | nil => simp at h'
      | cons d l =>
        have hd := hl d (by simp)
        simp only [List.drop_succ_cons, List.drop_zero] at i1 i2 i3
        refine ⟨by simp [chunk, i1], by simp [chunk, hd, i2], fun e he => ?_⟩
        simp only [chunk, if_true, List.mem_cons, List.drop_succ_cons, List.drop_zero, List.getD_cons_zero] at he
        rcases he with rfl | he
        · rw [hd]; rfl
        · exact i3 e he
    · have ht : (l.take sz).length = sz := by rw [List.length_take]; omega
      refine ⟨by simp [chunk, i1], by simp [chunk, h1, i2, D.cells], fun e he => ?_⟩
      simp only [chunk, if_neg h1, List.mem_cons] at he
      rcases he with rfl | he
      · exact ht
      · exact i3 e he

theorem den_one_cells {K : Ctx} {v : Value} {d : D} (h : Den K v d) (h1 : v.oneCell' = true) : d.cells = [d] := by
  cases h <;> first | rfl | (simp [Value.oneCell'] at h1)

theorem Den.agg_inv {K : Ctx} {A : Array Value} {cs : List D} (h : Den K (.agg A) (.agg cs)) : DenL K A.toList cs := by
  generalize hv : Value.agg A = v at h
  cases h with
  | agg vs _ hl => cases hv; simpa using hl
theorem frz_agg {n : Nat} {cs : List D} {d : D} {a : List Nat} (hf : frz h n (.agg cs) = some (d, a)) : ∃ cs', d = .agg cs' := by
  cases n with
  | zero => cases hf
  | succ n =>
    unfold frz at hf
    split at hf
    · cases hf; exact ⟨_, rfl⟩
    · simp only [Option.map_eq_some_iff, Prod.mk.injEq] at hf
      obtain ⟨_, _, rfl, _⟩ := hf; exact ⟨_, rfl⟩

theorem frz_den (s : Sim C K h w) : ∀ (n : Nat) (d d' : D) (ks : List Nat), frz h n d = some (d', ks) → (∀ k, k ∈ ks → k ∈ S) → ∀ v, Den K v d → Den (K.more h w S) v d' ∧ d'.pure = true := by
  intro n
  induction n with
  | zero => intro d d' ks hf; cases hf
  | succ n ih =>
    intro d d' ks hf hS v hv
    have list : ∀ {l l' : List D} {ks' : List Nat}, each (frz h n) l = some (l', ks') → (∀ k, k ∈ ks' → k ∈ S) → ∀ {vs : List Value}, DenL K vs l → DenL (K.more h w S) vs l' ∧ D.pureL l' = true := fun {l l' ks'} he hk' {vs} hl => by
      obtain ⟨e1, e2⟩ := each_spec he
      refine ⟨DenL.of_get (by rw [hl.length, e1]) fun i u e hu hx => ?_, D.pureL_of fun e hx => ?_⟩
      · have hlt : i < l.length := by rw [← e1]; exact (List.getElem?_eq_some_iff.1 hx).1
        obtain ⟨e', a, j1, j2, j3⟩ := e2 i l[i] (List.getElem?_eq_getElem hlt)
        rw [hx] at j2; cases j2
        obtain ⟨u', hu', hud⟩ := hl.get (List.getElem?_eq_getElem hlt)
        rw [hu] at hu'; cases hu'
        exact (ih _ _ _ j1 (fun k hk => hk' k (j3 k hk)) _ hud).1
      · obtain ⟨i, hi⟩ := List.mem_iff_getElem?.1 hx
        have hlt : i < l.length := by rw [← e1]; exact (List.getElem?_eq_some_iff.1 hi).1
        obtain ⟨e', a, j1, j2, j3⟩ := e2 i l[i] (List.getElem?_eq_getElem hlt)
        rw [hi] at j2; cases j2
        obtain ⟨u', hu', hud⟩ := hl.get (List.getElem?_eq_getElem hlt)
        exact (ih _ _ _ j1 (fun k hk => hk' k (j3 k hk)) _ hud).2
    have listE : ∀ {l l' : List (D × D)} {ks' : List Nat}, eachE (frz h n) l = some (l', ks') → (∀ k, k ∈ ks' → k ∈ S) → ∀ {vs : List MapEntry}, DenE K vs l → DenE (K.more h w S) vs l' ∧ D.pureE l' = true := fun {l} => by
      induction l with
      | nil => intro l' ks' he _ vs hl; simp only [eachE, Option.some.injEq, Prod.mk.injEq] at he; obtain ⟨rfl, rfl⟩ := he; cases hl; exact ⟨.nil, rfl⟩
      | cons p l ihl =>
        intro l' ks' he hk' vs hl
        obtain ⟨k0, v0⟩ := p
        simp only [eachE] at he
        split at he <;> cases he
        rename_i k1 a v1 b l1 c h1 h2 h3
        cases hl with
        | cons e _ _ es _ i1 i2 i3 =>
          obtain ⟨q1, q2⟩ := ihl h3 (fun k hk => hk' k (by simp [hk])) i3
          obtain ⟨r1, r2⟩ := ih _ _ _ h1 (fun k hk => hk' k (by simp [hk])) _ i1
          obtain ⟨t1, t2⟩ := ih _ _ _ h2 (fun k hk => hk' k (by simp [hk])) _ i2
          exact ⟨.cons _ _ _ _ _ r1 t1 q1, by simp only [D.pureE, r2, t2, q2, Bool.and_self]⟩
    unfold frz at hf
    split at hf
    · rename_i hc
      cases hf
      exact ⟨hv.mono more_le, canon_pure d hc⟩
    split at hf <;> try (cases hf; done)
    · cases hf; have := hv.val_eq; subst this; exact ⟨.slnil _, rfl⟩
    · cases hf; have := hv.val_eq; subst this; exact ⟨.mapnil, rfl⟩
    · simp only [Option.map_eq_some_iff, Prod.mk.injEq] at hf
      obtain ⟨⟨l', ks'⟩, he, rfl, rfl⟩ := hf
      cases hv with
      | agg vs _ hl => obtain ⟨i1, i2⟩ := list he hS hl; exact ⟨.agg _ _ i1, i2⟩
    · simp only [Option.map_eq_some_iff, Prod.mk.injEq] at hf
      obtain ⟨⟨l', ks'⟩, he, rfl, rfl⟩ := hf
      cases hv with
      | tup vs _ hl => obtain ⟨i1, i2⟩ := list he hS hl; exact ⟨.tup _ _ i1, i2⟩
    · simp only [Option.map_eq_some_iff, Prod.mk.injEq] at hf
      obtain ⟨⟨l', ks'⟩, he, rfl, rfl⟩ := hf
      cases hv with
      | eref b o us _ hc hl => obtain ⟨i1, i2⟩ := list he hS hl; exact ⟨.eref b o us _ (fun i v hi => more_le.cell _ _ _ (hc i v hi)) i1, i2⟩
    · split at hf <;> cases hf
      rename_i fs' a cs' b h1 h2
      cases hv with
      | fn f us vs _ _ hl1 hl2 =>
        obtain ⟨i1, i2⟩ := list h1 (fun k hk => hS k (by simp [hk])) hl1
        obtain ⟨i3, i4⟩ := list h2 (fun k hk => hS k (by simp [hk])) hl2
        exact ⟨.fn _ us vs _ _ i1 i3, by simp only [D.pure, i2, i4, Bool.and_self]⟩
    · simp only [Option.map_eq_some_iff, Prod.mk.injEq] at hf
      obtain ⟨⟨l', ks'⟩, he, rfl, rfl⟩ := hf
      cases hv with
      | iface t u _ hl => obtain ⟨i1, i2⟩ := ih _ _ _ he hS _ hl; exact ⟨.iface _ u _ i1, i2⟩
    · cases hf
      cases hv with
      | sle a cap hc => exact ⟨.slw a cap false (fun h => by cases h) hc, rfl⟩
    · rename_i z es _
      simp only [Option.map_eq_some_iff, Prod.mk.injEq] at hf
      obtain ⟨⟨l', ks'⟩, he, rfl, rfl⟩ := hf
      obtain ⟨e1, e2⟩ := each_spec he
      cases hv with
      | slnil _ => have : l' = [] := List.eq_nil_of_length_eq_zero (by simpa using e1); subst this; exact ⟨.slnil _, rfl⟩
      | slw a cap _ _ hc => have : l' = [] := List.eq_nil_of_length_eq_zero (by simpa using e1); subst this; exact ⟨.slw a cap false (fun h => by cases h) hc, rfl⟩
      | sl b o cap _ sz _ us hz hn hm hs hcl hone hdl =>
        -- each element's cells
        have key : ∀ (l l' : List D) (us : List Value), l'.length = l.length → (∀ (i : Nat) (d : D), l[i]? = some d → ∃ d' a, frz h n d = some (d', a) ∧ l'[i]? = some d' ∧ ∀ k, k ∈ a → k ∈ ks') → (∀ e, e ∈ l → e.cells.length = sz) → us.all (·.oneCell') = true → DenL K us (l.flatMap D.cells) →
            DenL (K.more h w S) us (l'.flatMap D.cells) ∧ D.pureL l' = true ∧ ∀ e, e ∈ l' → e.cells.length = sz := by
          intro l
          induction l with
          | nil => intro l' us hl _ _ _ hd; have : l' = [] := List.eq_nil_of_length_eq_zero (by simpa using hl); subst this; cases us with | nil => exact ⟨.nil, rfl, fun e he => by cases he⟩ | cons => cases hd
          | cons d l ihl =>
            intro l' us hl hg hs h1 hd
            cases l' with
            | nil => simp at hl
            | cons d1 l1 =>
              obtain ⟨d', a, j1, j2, j3⟩ := hg 0 d rfl
              simp at j2; subst j2
              rw [List.flatMap_cons] at hd
              have hlen := hd.length
              have hdl := hs d (by simp)
              rw [List.length_append] at hlen
              have hsplit : us = us.take sz ++ us.drop sz := (List.take_append_drop _ _).symm
              have hd1 : DenL K (us.take sz) d.cells := by have := hd.take sz; rwa [List.take_left' hdl] at this
              have hd2 : DenL K (us.drop sz) (l.flatMap D.cells) := by have := hd.drop sz; rwa [List.drop_left' hdl] at this
              have hu1 : (us.take sz).all (·.oneCell') = true := List.all_eq_true.2 fun u hu => List.all_eq_true.1 h1 u (List.mem_of_mem_take hu)
              have hu2 : (us.drop sz).all (·.oneCell') = true := List.all_eq_true.2 fun u hu => List.all_eq_true.1 h1 u (List.mem_of_mem_drop hu)
              obtain ⟨q1, q2, q3⟩ := ihl l1 (us.drop sz) (by simpa using hl) (fun i x hx => hg (i + 1) x (by simpa using hx)) (fun e he => hs e (by simp [he])) hu2 hd2
              have elem : DenL (K.more h w S) (us.take sz) d1.cells ∧ d1.pure = true ∧ d1.cells.length = sz := by
                by_cases hag : ∃ cs, d = .agg cs
                · obtain ⟨cs, rfl⟩ := hag
                  obtain ⟨r1, r2⟩ := ih _ _ _ j1 (fun k hk => hS k (j3 k hk)) (.agg (us.take sz).toArray) (.agg _ _ hd1)
                  obtain ⟨cs1, rfl⟩ := frz_agg j1
                  have hq := r1.agg_inv
                  rw [List.toList_toArray] at hq
                  exact ⟨hq, r2, by rw [← hdl, ← hd1.length]; exact hq.length.symm⟩
                · have hcs : d.cells = [d] := by cases d <;> first | rfl | exact absurd ⟨_, rfl⟩ hag
                  rw [hcs] at hd1 hdl
                  have hsz1 : sz = 1 := hdl.symm
                  cases hus : us.take sz with
                  | nil => rw [hus] at hd1; cases hd1
                  | cons u ur =>
                    rw [hus] at hd1 hu1
                    cases hd1 with
                    | cons _ _ _ _ hdu hnil =>
                      cases hnil
                      obtain ⟨r1, r2⟩ := ih _ _ _ j1 (fun k hk => hS k (j3 k hk)) _ hdu
                      have hone : u.oneCell' = true := by simpa using hu1
                      rw [den_one_cells r1 hone]
                      exact ⟨.cons _ _ _ _ r1 .nil, r2, by rw [hsz1]; rfl⟩
              refine ⟨?_, ?_, ?_⟩
              · rw [hsplit, List.flatMap_cons]; exact elem.1.append q1
              · simp only [D.pureL, elem.2.1, q2, Bool.and_self]
              · intro e he
                rcases List.mem_cons.1 he with rfl | he
                · exact elem.2.2
                · exact q3 e he
        obtain ⟨q1, q2, q3⟩ := key es l' us e1 e2 hs hone hdl
        refine ⟨?_, q2⟩
        rw [← e1] at hn ⊢
        exact .sl b o cap false sz l' us (fun x => by cases x) hn hm q3 (fun i v hi => more_le.cell _ _ _ (hcl i v hi)) hone q1
    · simp only [Option.map_eq_some_iff, Prod.mk.injEq] at hf
      obtain ⟨⟨l', ks'⟩, he, rfl, rfl⟩ := hf
      cases hv with
      | map r ents clock _ ho hl => obtain ⟨i1, i2⟩ := listE he hS hl; exact ⟨.map r ents clock _ (more_le.obj _ _ ho) i1, i2⟩
      | mapnil => simp only [eachE, Option.some.injEq, Prod.mk.injEq] at he; obtain ⟨rfl, rfl⟩ := he; exact ⟨.mapnil, rfl⟩
    · rename_i k o _
      split at hf
      rotate_left
      · simp only [Option.map_eq_some_iff, Prod.mk.injEq] at hf
        obtain ⟨cs, hz, rfl, rfl⟩ := hf
        obtain ⟨b, m, hl, rfl⟩ := hv.ptr_inv
        obtain ⟨b', n', us, q1, q2, q3, q4, q5, q6⟩ := s.froz k cs hz
        rw [hl] at q1; cases q1
        refine ⟨.eref b o (us.drop o) _ (fun i v hi => ?_) ((q2.drop o).mono more_le), D.pureL_of fun d hd => D.pureL_mem q5 d (List.mem_of_mem_drop hd)⟩
        rw [List.getElem?_drop] at hi
        exact more_le.cell _ _ _ (q6 _ _ hi)
      rename_i ty cs hk
      simp only [Option.map_eq_some_iff, Prod.mk.injEq] at hf
      obtain ⟨⟨l', ks'⟩, he, rfl, rfl⟩ := hf
      obtain ⟨b, m, hl, rfl⟩ := hv.ptr_inv
      obtain ⟨_, us, vs, g1, g2, g3, g4⟩ := s.block hk hl
      obtain ⟨i1, i2⟩ := list he (fun k hk => hS k (by simp [hk])) (g2.drop o)
      refine ⟨.eref b o (us.drop o) _ (fun i v hi => ?_) i1, i2⟩
      rw [List.getElem?_drop] at hi
      have hc := cell_of_block g1 hi
      cases hx : K.cell b (o + i) with
      | some u => have := (s.cells _ _ _ hx).2; rw [hc] at this; cases this; exact more_le.cell _ _ _ hx
      | none => simp only [Ctx.more, hx]; rw [if_pos ⟨k, _, m, hS k (by simp), hk, hl⟩]; exact hc
    · rename_i k o m sz c _
      cases hv with
      | slr _ _ _ _ b mm cap _ hl hncap hcm hfit hnone hsome =>
      have fin : ∀ (us : List Value) (l' : List D) (hle : o + m * sz ≤ us.length) (h0 : 0 < sz), us.all (·.oneCell') = true → DenL (K.more h w S) ((us.drop o).take (m * sz)) l' → D.pureL l' = true →
          (∀ i v, us[i]? = some v → (K.more h w S).cell b i = some v) → Den (K.more h w S) (.slice (some ⟨b, o, none⟩) m cap) (.sl false (chunk sz m l')) ∧ (D.sl false (chunk sz m l')).pure = true := fun us l' hle h0 g3 i1 i2 hcells => by
        have hone : ((us.drop o).take (m * sz)).all (·.oneCell') = true := List.all_eq_true.2 fun u hu => List.all_eq_true.1 g3 u (List.mem_of_mem_drop (List.mem_of_mem_take hu))
        have hlen : l'.length = m * sz := by rw [← i1.length]; simp; omega
        have hcs : ∀ d, d ∈ l' → d.cells = [d] := fun d hd => by
          obtain ⟨i, hi⟩ := List.mem_iff_getElem?.1 hd
          obtain ⟨u, hu, hud⟩ := i1.get hi
          exact den_one_cells hud (List.all_eq_true.1 hone u (List.mem_of_getElem? hu))
        obtain ⟨j1, j2, j3⟩ := chunk_spec sz h0 m l' hcs hlen
        have hcell : ∀ (i : Nat) (u : Value), ((us.drop o).take (m * sz))[i]? = some u → (K.more h w S).cell b (o + i) = some u := fun i u hi => by
          rw [List.getElem?_take] at hi
          split at hi <;> try (cases hi; done)
          rw [List.getElem?_drop] at hi
          exact hcells _ _ hi
        have hpc : D.pureL (chunk sz m l') = true := by
          have aux : ∀ (m : Nat) (l : List D), D.pureL l = true → l.length = m * sz → D.pureL (chunk sz m l) = true := by
            intro m
            induction m with
            | zero => intro l _ _; rfl
            | succ m ihm =>
              intro l hp hll
              rw [Nat.add_mul, Nat.one_mul] at hll
              have hmem := D.pureL_mem hp
              have hdrop : D.pureL (l.drop sz) = true := D.pureL_of fun d hd => hmem d (List.mem_of_mem_drop hd)
              have htake : D.pureL (l.take sz) = true := D.pureL_of fun d hd => hmem d (List.mem_of_mem_take hd)
              simp only [chunk, D.pureL, Bool.and_eq_true]
              refine ⟨?_, ihm _ hdrop (by rw [List.length_drop]; omega)⟩
              split
              · cases l with
                | nil => simp at hll; omega
                | cons d l => exact hmem d (by simp)
              · exact htake
          exact aux m l' i2 hlen
        refine ⟨?_, hpc⟩
        have := Den.sl (S := K.more h w S) b o cap false sz (chunk sz m l') ((us.drop o).take (m * sz)) (fun x => by cases x) (by rw [j1]; exact hncap) hcm j3 hcell hone (by rw [j2]; exact i1)
        rwa [j1] at this
      split at hf
      · rename_i ty cs hk
        split at hf <;> try (cases hf; done)
        rename_i hcond
        obtain ⟨hle, h0⟩ := hcond
        simp only [Option.map_eq_some_iff, Prod.mk.injEq] at hf
        obtain ⟨⟨l', ks'⟩, he, rfl, rfl⟩ := hf
        obtain ⟨_, us, vs, g1, g2, g3, g4⟩ := s.block hk hl
        obtain ⟨i1, i2⟩ := list he (fun k hk => hS k (by simp [hk])) ((g2.drop o).take (m * sz))
        refine fin us l' (by rw [g2.length]; exact hle) h0 g3 i1 i2 fun i v hi => ?_
        have hc := cell_of_block g1 hi
        cases hx : K.cell b i with
        | some u => have := (s.cells _ _ _ hx).2; rw [hc] at this; cases this; exact more_le.cell _ _ _ hx
        | none => simp only [Ctx.more, hx]; rw [if_pos ⟨k, _, mm, hS k (by simp), hk, hl⟩]; exact hc
      · split at hf <;> try (cases hf; done)
        rename_i cs hz
        split at hf <;> try (cases hf; done)
        rename_i hcond
        cases hf
        obtain ⟨b', n', us, q1, q2, q3, q4, q5, q6⟩ := s.froz k cs hz
        rw [hl] at q1; cases q1
        exact fin us _ (by rw [q2.length]; exact hcond.1) hcond.2 q3 (((q2.drop o).take _).mono more_le) (D.pureL_of fun d hd => D.pureL_mem q5 d (List.mem_of_mem_drop (List.mem_of_mem_take hd))) fun i v hi => more_le.cell _ _ _ (q6 _ _ hi)
    · rename_i k _
      split at hf <;> try (cases hf; done)
      rename_i es hk
      simp only [Option.map_eq_some_iff, Prod.mk.injEq] at hf
      obtain ⟨⟨l', ks'⟩, he, rfl, rfl⟩ := hf
      cases hv with
      | mapr _ b m hl =>
        obtain ⟨b', n', O, i1, i2, i3, ⟨ents, clock, rfl, hde⟩, i5, i6⟩ := s.live k _ hk
        rw [hl] at i1; cases i1
        obtain ⟨q1, q2⟩ := listE he (fun k hk => hS k (by simp [hk])) hde
        refine ⟨.map b ents clock _ ?_ q1, q2⟩
        simp only [Ctx.more, i6]
        rw [if_pos ⟨k, _, m, hS k (by simp), hk, hl⟩, i3]
end
theorem coolL_look {h : Heap} {ks : List Nat} {k : Nat} {cs : List D} : ∀ {l : List Nat}, (coolL h ks l).lookup k = some cs → k ∈ l ∧ ∃ ty cs0, h.get k = some (.cells ty cs0) ∧ cs = cs0.map (coolD h ks)
  | [], x => by simp [coolL] at x
  | j :: l, x => by
    simp only [coolL] at x
    split at x
    · rename_i ty c hg
      rw [List.lookup_cons] at x
      by_cases hkj : k = j
      · subst hkj
        simp at x
        exact ⟨by simp, ty, c, hg, x.symm⟩
      · rw [show (k == j) = false by simpa using hkj] at x
        obtain ⟨h1, h2⟩ := coolL_look x
        exact ⟨by simp [h1], h2⟩
    · obtain ⟨h1, h2⟩ := coolL_look x
      exact ⟨by simp [h1], h2⟩
theorem Heap.cool_fzd {h : Heap} {S : List Nat} {k : Nat} {cs : List D} (x : (h.cool S).fzd k = some cs) : (k ∈ S ∧ ∃ ty cs0, h.get k = some (.cells ty cs0) ∧ cs = cs0.map (coolD h S)) ∨ (h.kill S).fzd k = some cs := by
  have x' : (coolL h S S ++ (h.kill S).z).lookup k = some cs := x
  rw [List.lookup_append] at x'
  cases hc : (coolL h S S).lookup k with
  | some c =>
    rw [hc] at x'
    simp at x'
    subst x'
    exact .inl (coolL_look hc)
  | none =>
    rw [hc] at x'
    simp at x'
    exact .inr x'
theorem Sim.coolS {C : Cx} {K : Ctx} {h : Heap} {w : World} (s : Sim C K h w) (S : List Nat) : Sim C (K.more h w S) (h.cool S) w := by
  have s1 := s.freeze S
  refine ⟨s1.ext, s1.glob, s1.below, s1.cells, s1.objs, s1.live, s1.inj, s1.fresh, fun k cs x => ?_, s1.vw, s1.vj⟩
  rcases Heap.cool_fzd x with ⟨hkS, ty, cs0, hk, rfl⟩ | x
  · obtain ⟨b, n, O, hl, _⟩ := s.live k _ hk
    obtain ⟨_, us, vs, g1, g2, g3, g4⟩ := s.block hk hl
    have one : ∀ (v : Value) (d : D), Den K v d → Den (K.more h w S) v (coolD h S d) ∧ (coolD h S d).pure = true := fun v d hd => by
      unfold coolD
      split
      · rename_i d' l hf
        split
        · rename_i hc
          exact frz_den s _ _ _ _ hf (fun k hk => by simpa using List.all_eq_true.1 hc k hk) _ hd
        · exact ⟨.junk _, rfl⟩
      · exact ⟨.junk _, rfl⟩
    have all : ∀ (us : List Value) (cs : List D), DenL K us cs → DenL (K.more h w S) us (cs.map (coolD h S)) ∧ D.pureL (cs.map (coolD h S)) = true := by
      intro us
      induction us with
      | nil => intro cs hd; cases hd; exact ⟨.nil, rfl⟩
      | cons v us ih =>
        intro cs hd
        cases hd with
        | cons _ d _ ds a l =>
          obtain ⟨i1, i2⟩ := ih ds l
          obtain ⟨j1, j2⟩ := one v d a
          exact ⟨.cons _ _ _ _ j1 i1, by simp only [List.map_cons, D.pureL, j2, i2, Bool.and_self]⟩
    obtain ⟨a1, a2⟩ := all us cs0 g2
    refine ⟨b, n, us, hl, a1, g3, by rw [← g4, List.length_append]; omega, a2, fun i v hi => ?_⟩
    have hc := cell_of_block g1 hi
    cases hx : K.cell b i with
    | some u => have := (s.cells _ _ _ hx).2; rw [hc] at this; cases this; exact more_le.cell _ _ _ hx
    | none => simp only [Ctx.more, hx]; rw [if_pos ⟨k, _, n, hkS, hk, hl⟩]; exact hc
  · exact s1.froz k cs x
theorem Sim.uncool {C : Cx} {K : Ctx} {h : Heap} {w : World} {S : List Nat} (s : Sim C K (h.cool S) w) : Sim C K (h.kill S) w := by
  refine ⟨s.ext, s.glob, s.below, s.cells, s.objs, s.live, s.inj, s.fresh, fun k cs x => s.froz k cs ?_, s.vw, s.vj⟩
  have hk : k ∉ S := fun hk => by rw [Heap.kill_fzd, if_pos hk] at x; cases x
  show (coolL h S S ++ (h.kill S).z).lookup k = some cs
  rw [List.lookup_append]
  cases hc : (coolL h S S).lookup k with
  | some c => exact absurd (coolL_look hc).1 hk
  | none =>
    have x' : (h.kill S).z.lookup k = some cs := x
    simpa using x'
theorem frz_nz {h : Heap} {n : Nat} {d d' : D} (hd : nz d = some d') : frz h (n + 1) d = some (d', []) := by
  unfold nz at hd
  unfold frz
  split at hd
  · rename_i hc
    cases hd
    rw [if_pos hc]
  · rename_i hc
    rw [if_neg hc]
    split at hd <;> cases hd <;> rfl
theorem each_nz {h : Heap} {n : Nat} : ∀ {l l' : List D}, nzL l = some l' → each (frz h (n + 1)) l = some (l', [])
  | [], l', hl => by simp only [nzL, Option.some.injEq] at hl; subst hl; rfl
  | d :: l, l', hl => by
    simp only [nzL] at hl
    split at hl <;> cases hl
    rename_i d1 l1 h1 h2
    simp only [each, frz_nz h1, each_nz h2]; rfl
theorem nzL_canon : ∀ {l : List D}, D.canonL l = true → nzL l = some l
  | [], _ => rfl
  | d :: l, h => by
    simp only [D.canonL, Bool.and_eq_true] at h
    simp only [nzL, nzL_canon h.2, nz, if_pos h.1]
theorem sound_bst {P : Program} {N : Nat} {o : Oper} {et sz n : Nat} {z : List Value} {ps : List (Nat × X)} (hb : MSound P N o (.bs et sz n z ps)) : MSound P N o (.bst et sz n z ps) := by
  refine ⟨hb.1, fun C K h h' w e a t d hP s f hq => ?_⟩
  simp only [M.ev] at hq
  split at hq <;> try (cases hq; done)
  rename_i cs hf
  have key : ∀ ds, nzL (cs.take (n * sz)) = some ds → 0 < sz ∧ n * sz ≤ cs.length → (h.alloc t (.cells et cs)).map (fun h => (D.sl false (chunk sz n ds), h.set t none)) = some (d, h') →
      ∃ v w' K', Did P o a w v w' ∧ K.le K' ∧ Sim C K' h' w' ∧ Den K' v d := fun ds hds hc hq => by
    simp only [Option.map_eq_some_iff, Prod.mk.injEq] at hq
    obtain ⟨h2, ha, rfl, rfl⟩ := hq
    obtain ⟨v, w', K', i1, i2, i3, i4⟩ := hb.2 C K h h2 w e a t (.slr t 0 n sz (some n)) hP s f (by simp only [M.ev, hf, ha, Option.map_some])
    have hg : h2.get t = some (.cells et cs) := by
      unfold Heap.alloc at ha
      split at ha <;> cases ha
      exact Heap.get_set_same _ _ _
    have hz : frz h2 2 (.slr t 0 n sz (some n)) = some (.sl false (chunk sz n ds), [t]) := by
      unfold frz
      rw [if_neg (by simp [D.canon])]
      simp only [hg]
      rw [if_pos ⟨by omega, hc.1⟩, List.drop_zero, each_nz hds]; rfl
    obtain ⟨j1, _⟩ := frz_den (S := [t]) i3 _ _ _ _ hz (fun _ x => x) _ i4
    exact ⟨v, w', _, i1, i2.trans more_le, i3.freeze [t], j1⟩
  split at hq
  · rename_i hc
    exact key _ (nzL_canon hc.1) hc.2 hq
  · split at hq <;> try (cases hq; done)
    rename_i ds hds
    split at hq <;> try (cases hq; done)
    rename_i hc
    exact key ds hds hc hq
end Go.Em
/- A block that stands for nothing in the heap may get the mark of constant bytes. -/
namespace Go.Em
open Go Go.RowKit

theorem freeze_other (w : World) (a : Addr) (n j : Nat) (h : j ≠ a.block) : (w.freeze a n).heap[j]? = w.heap[j]? := by
  unfold World.freeze
  split
  · rfl
  · show (w.heap.modify a.block _)[j]? = _
    rw [Array.getElem?_modify, if_neg (fun e => h e.symm)]
theorem freeze_size (w : World) (a : Addr) (n : Nat) : (w.freeze a n).heap.size = w.heap.size := by
  unfold World.freeze
  split
  · rfl
  · show (w.heap.modify a.block _).size = _
    simp
theorem freeze_cell (w : World) (b n m : Nat) {arr : Array Value} {ty : TypeId} (hw : w.heap[b]? = some (.cells arr ty)) (j o : Nat) : (w.freeze ⟨b, n, none⟩ m).cell? ⟨j, o, none⟩ = w.cell? ⟨j, o, none⟩ := by
  by_cases hj : j = b
  · subst hj
    unfold World.freeze
    split
    · rfl
    · simp [World.cell?, Array.getElem?_modify, hw]
  · simp only [World.cell?, freeze_other w ⟨b, n, none⟩ m j hj]
theorem Sim.marked {C : Cx} {K : Ctx} {h : Heap} {w : World} (s : Sim C K h w) {b : Nat} {arr : Array Value} {ty : TypeId} (hw : w.heap[b]? = some (.cells arr ty)) (hb : C.w0.heap.size ≤ b) (hl : ∀ k B n, h.get k = some B → K.loc k ≠ some (b, n)) (hv : ∀ k cs n, h.vget k = some cs → K.loc k ≠ some (b, n)) (n m : Nat) : Sim C K h (w.freeze ⟨b, n, none⟩ m) := by
  have other := fun j hj => freeze_other w ⟨b, n, none⟩ m j hj
  have cell := freeze_cell w b n m hw
  have size := freeze_size w ⟨b, n, none⟩ m
  have hos : (w.freeze ⟨b, n, none⟩ m).os = w.os := by unfold World.freeze; split <;> rfl
  have htape : (w.freeze ⟨b, n, none⟩ m).tape = w.tape := by unfold World.freeze; split <;> rfl
  have hout : (w.freeze ⟨b, n, none⟩ m).output = w.output := by unfold World.freeze; split <;> rfl
  refine ⟨s.ext, s.glob, ⟨by rw [hos]; exact s.below.os, by rw [htape]; exact s.below.tape, by rw [hout]; exact s.below.output, by rw [size]; exact s.below.size, fun k hk => ?_⟩, fun b' o v x => ?_, fun b' o x => ?_, fun k B x => ?_, s.inj, s.fresh, s.froz, fun k cs x => ?_, s.vj⟩
  · rw [other k (by simp only; omega)]; exact s.below.block k hk
  · obtain ⟨y, z⟩ := s.cells b' o v x
    exact ⟨by rw [size]; exact y, by rw [cell b' o]; exact z⟩
  · obtain ⟨y, es, c, rfl⟩ := s.objs b' o x
    have : b' ≠ b := by rintro rfl; rw [hw] at y; cases y
    exact ⟨by rw [other b' this]; exact y, es, c, rfl⟩
  · obtain ⟨b', n', O, i1, i2, i3, i4⟩ := s.live k B x
    have : b' ≠ b := by rintro rfl; exact hl k B n' x i1
    exact ⟨b', n', O, i1, i2, by rw [other b' this]; exact i3, i4⟩
  · obtain ⟨b', n', us, vs, ty', i1, i2, i3, i4⟩ := s.vw k cs x
    have : b' ≠ b := by rintro rfl; exact hv k cs n' x i1
    exact ⟨b', n', us, vs, ty', i1, i2, by rw [other b' this]; exact i3, i4⟩
theorem const_bytes {C : Cx} {K : Ctx} {h : Heap} {w : World} {P : Program} (s : Sim C K h w) {t et : TypeId} (ht : P.underlying t = some (.slice et)) (he : P.underlying et = some (.int .u8)) {k o n m : Nat} {c : Option Nat} {d' : D} {ty : TypeId} {cs : List D} {v : Value} (hf : frz h m (.slr k o n 1 c) = some (d', [k])) (hg : h.get k = some (.cells ty cs)) (hv : Den K v (.slr k o n 1 c)) :
    ∃ w' K', (convert t t v).run P w = .ok v w' ∧ K.le K' ∧ Sim C K' (h.kill [k]) w' ∧ Den K' v d' := by
  have hd := (frz_den (S := [k]) s m _ _ _ hf (fun _ x => x) v hv).1
  have s1 := s.freeze [k]
  cases hv with
  | slr _ _ _ _ b mm cap _ hl _ _ _ _ _ =>
    obtain ⟨hb, us, vs, h1, h2, h3, h4⟩ := s.block hg hl
    have hsh : w.shape? b = some (ty, (us ++ vs).toArray.size) := by
      unfold World.shape?; rw [h1]
    refine ⟨w.freeze ⟨b, (us ++ vs).toArray.size, none⟩ 1, K.more h w [k], ?_, more_le, ?_, hd⟩
    · simp [convert, run_underlying ht, run_underlying he, markStringish, hsh]
    · refine s1.marked h1 hb (fun j B n' hj hj' => ?_) (fun j cs' n' hj hj' => ?_) _ _
      · have hjk : j ≠ k := by
          rintro rfl
          simp [Heap.kill] at hj
        have hj2 : h.get j = some B := by
          simp only [Heap.kill] at hj
          rwa [Heap.get_set_ne _ _ hjk] at hj
        exact hjk (s.inj j k _ _ b n' mm hj2 hg hj' hl)
      · simp only [Heap.kill] at hj
        obtain ⟨hjk, hj2, _⟩ := Heap.vget_of_set (b := none) rfl hj
        obtain ⟨b', n2, _, _, _, i1, _, _, _, _, _, _, _, i9⟩ := s.vw j cs' hj2
        rw [show K.loc j = some (b, n') from hj'] at i1
        cases i1
        exact i9 k _ mm hg hl
theorem cb_each (h : Heap) (n : Nat) : ∀ l : List D, D.canonL l = true → each (frz h (n + 1)) l = some (l, [])
  | [], _ => rfl
  | d :: l, x => by
    simp only [D.canonL, Bool.and_eq_true] at x
    have e1 : frz h (n + 1) d = some (d, []) := by unfold frz; rw [if_pos x.1]
    simp only [each, e1, cb_each h n l x.2]
    rfl
theorem sound_cbs {P : Program} {N : Nat} {o : Oper} {t et : TypeId} {x : Operand} {x' : X} (hop : o.op = .convert t t x) (hx : X.of N x = some x') (ht : P.underlying t = some (.slice et)) (he : P.underlying et = some (.int .u8)) : MSound P N o (.cbs x') := by
  refine ⟨(by rw [hop]; rfl), fun C K h h' w e a t0 d hP s f hq => ?_⟩
  simp only [M.ev] at hq
  split at hq <;> try (cases hq; done)
  rename_i k off n c hb
  split at hq <;> try (cases hq; done)
  rename_i ty cs hg
  split at hq <;> try (cases hq; done)
  rename_i hc
  cases hq
  have h1 := f.rd s hx
  rw [hb] at h1
  have hf : frz h 2 (.slr k off n 1 c) = some (.sl false (chunk 1 n ((cs.drop off).take n)), [k]) := by
    unfold frz
    rw [if_neg (by simp [D.canon])]
    simp only [hg, Nat.mul_one, hc.1, true_and, Nat.zero_lt_one, if_true, and_self, cb_each h 0 _ hc.2, Option.map_some]
  obtain ⟨w', K', hr, hle, hs, hd⟩ := const_bytes s ht he hf hg h1
  exact ⟨_, w', K', .value _ _ (by simp [execOp, hop, hr]), hle, hs, hd⟩
end Go.Em
