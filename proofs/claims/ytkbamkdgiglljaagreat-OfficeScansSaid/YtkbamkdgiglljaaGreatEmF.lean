/- How the heap's blocks lie in memory. -/
import Derived.Test.YtkbamkdgiglljaaGreatEmD
namespace Go.Em
open Go Go.RowKit

theorem run_of_ans {s : Sem Value} {v : Value} (h : ans s = some v) (P : Program) (w : World) : s.run P w = .ok v w := by
  cases s <;> simp [ans] at h
  rw [← h.2]; rfl
theorem one_of_ans {s : Sem Value} {v : Value} (h : ans s = some v) : v.oneCell' = true := by
  cases s <;> simp [ans] at h
  rw [← h.2]; exact h.1

theorem run_bin {P : Program} {op : BinOp} {t : TypeId} {x y : Operand} {u v r : Value} (h : bin op u v = some r) (w : World) :
    (do eqGuard op t x y u v; binOp op t u v : Sem Value).run P w = .ok r w := by
  cases u <;> cases v <;> simp only [bin] at h <;> try cases h
  · rename_i k a k' b
    have hg : (eqGuard op t x y (.int k a) (.int k' b)).run P w = .ok () w := by
      unfold eqGuard; split <;> simp
    have hb : binOp op t (.int k a) (.int k' b) = binOp op 0 (.int k a) (.int k' b) := by cases op <;> rfl
    simp only [Sem.run_bind, hg, Result.andThen_ok, hb]
    exact run_of_ans h P w
  · rename_i a b
    have hg : (eqGuard op t x y (.string a) (.string b)).run P w = .ok () w := by
      unfold eqGuard; split <;> simp
    have hb : binOp op t (.string a) (.string b) = Op.stringOp op a b := by cases op <;> rfl
    simp only [Sem.run_bind, hg, Result.andThen_ok, hb]
    exact run_of_ans h P w

theorem addr_add (b o n : Nat) : (⟨b, o, none⟩ : Addr).add n = ⟨b, o + n, none⟩ := by
  unfold Addr.add; split <;> simp_all

theorem run_loadCellsFrom {P : Program} {w : World} {b o : Nat} : ∀ (n i : Nat) (vs : List Value) (acc : Array Value), vs.length = n → (∀ (j : Nat) (v : Value), vs[j]? = some v → w.cell? ⟨b, o + (i + j), none⟩ = some v) →
    (loadCellsFrom ⟨b, o, none⟩ i n acc).run P w = .ok (acc ++ vs.toArray) w
  | 0, _, vs, acc, hl, _ => by
    have : vs = [] := List.eq_nil_of_length_eq_zero hl
    subst this; simp [loadCellsFrom]
  | n + 1, i, vs, acc, hl, hc => by
    cases vs with
    | nil => simp at hl
    | cons v vs =>
      have h0 := hc 0 v rfl
      simp only [Nat.add_zero] at h0
      have ih := run_loadCellsFrom (P := P) n (i + 1) vs (acc.push v) (by simpa using hl) (fun j u hj => by
        have := hc (j + 1) u (by simpa using hj)
        rw [show i + (j + 1) = i + 1 + j by omega] at this; exact this)
      simp only [loadCellsFrom, Sem.run_bind, addr_add]
      have hld : (load (⟨b, o + i, none⟩ : Addr)).run P w = .ok v w := by simp [load, Sem.run, h0]
      rw [hld, Result.andThen_ok, ih]
      simp

theorem run_loadCells {P : Program} {w : World} {b o n : Nat} {vs : List Value} (hl : vs.length = n) (hc : ∀ (j : Nat) (v : Value), vs[j]? = some v → w.cell? ⟨b, o + j, none⟩ = some v) :
    (loadCells ⟨b, o, none⟩ n).run P w = .ok vs.toArray w := by
  have := run_loadCellsFrom (P := P) (w := w) (b := b) (o := o) n 0 vs #[] hl (fun j v hj => by rw [Nat.zero_add]; exact hc j v hj)
  simpa [loadCells] using this

def shapeOf (P : Program) (t : TypeId) : Option (Bool × Nat) :=
  match P.underlying t, P.info? t with
  | some (.struct _), some i => some (true, i.size)
  | some (.array _ _), some i => some (true, i.size)
  | some .invalid, _ => none
  | some _, some i => if i.size = 1 then some (false, 1) else none
  | _, _ => none

theorem run_isAgg {P : Program} {t : TypeId} {b : Bool} {n : Nat} (h : shapeOf P t = some (b, n)) (w : World) : (isAgg t).run P w = .ok b w := by
  unfold shapeOf at h
  unfold isAgg
  split at h
  · rename_i h1 h2; simp only [Option.some.injEq, Prod.mk.injEq] at h; simp [run_underlying h1, h.1]
  · rename_i h1 h2; simp only [Option.some.injEq, Prod.mk.injEq] at h; simp [run_underlying h1, h.1]
  · cases h
  · rename_i d i hn1 hn2 hn3 h1 h2
    split at h
    · simp only [Option.some.injEq, Prod.mk.injEq] at h
      rw [← h.1]
      cases d <;> first | (simp [run_underlying h1]; done) | exact absurd rfl (hn1 _) | exact absurd rfl (hn2 _ _) | (exfalso; simp_all; done)
    · cases h
  · cases h
theorem run_size {P : Program} {t : TypeId} {b : Bool} {n : Nat} (h : shapeOf P t = some (b, n)) (w : World) : (sizeOf t).run P w = .ok n w := by
  have : ∃ i, P.info? t = some i ∧ i.size = n := by
    unfold shapeOf at h
    split at h
    · rename_i i _ h2; simp at h; exact ⟨i, h2, h.2⟩
    · rename_i i _ h2; simp at h; exact ⟨i, h2, h.2⟩
    · cases h
    · rename_i d i _ _ _ _ h2
      split at h
      · simp at h; exact ⟨i, h2, by omega⟩
      · cases h
    · cases h
  obtain ⟨i, h1, h2⟩ := this
  simp [sizeOf, typeInfo, h1, h2]
theorem shape_one {P : Program} {t : TypeId} {n : Nat} (h : shapeOf P t = some (false, n)) : n = 1 := by
  unfold shapeOf at h
  split at h <;> simp at h
  · exact h.2.symm
theorem getD_one {us : List Value} {cs : List D} {K : Ctx} (h : DenL K us cs) {o : Nat} (ho : o < cs.length) : ∃ v, us[o]? = some v ∧ Den K v (cs.getD o .junk) := by
  have : cs[o]? = some (cs.getD o .junk) := by simp [List.getD, List.getElem?_eq_getElem ho]
  exact h.get this

theorem run_ld {P : Program} {w : World} {K : Ctx} {t : TypeId} {ag : Bool} {n b o : Nat} (hs : shapeOf P t = some (ag, n)) {us : List Value} {cs : List D} (hd : DenL K us cs) (hn : n ≤ cs.length)
    (hc : ∀ (j : Nat) (v : Value), us[j]? = some v → w.cell? ⟨b, o + j, none⟩ = some v) :
    ∃ v, (loadVar t ⟨b, o, none⟩).run P w = .ok v w ∧ Den K v (if ag then .agg (cs.take n) else cs.getD 0 .junk) := by
  cases ag with
  | true =>
    have hl : (us.take n).length = n := by rw [List.length_take, hd.length]; omega
    refine ⟨.agg (us.take n).toArray, ?_, .agg _ _ (hd.take n)⟩
    simp only [loadVar, Sem.run_bind, run_isAgg hs, Result.andThen_ok]
    simp only [if_true, Sem.run_bind, run_size hs, Result.andThen_ok]
    rw [run_loadCells hl (fun j v hj => hc j v (by rw [List.getElem?_take] at hj; split at hj; exact hj; cases hj))]
    rfl
  | false =>
    have h1 := shape_one hs
    subst h1
    obtain ⟨v, hv, hdv⟩ := getD_one hd (show 0 < cs.length by omega)
    refine ⟨v, ?_, by simpa using hdv⟩
    have := hc 0 v hv
    simp only [Nat.add_zero] at this
    simp only [loadVar, Sem.run_bind, run_isAgg hs, Result.andThen_ok]
    rw [if_neg (by simp)]
    simp [load, Sem.run, this]

theorem info_size {P : Program} {t : TypeId} {i : TypeInfo} (h : P.info? t = some i) (w : World) : (sizeOf t).run P w = .ok i.size w := by simp [sizeOf, typeInfo, h]

structure Lk where
  code : Nat → Code → Cd → Prop
  fn : FuncId → Prop

structure Cx where
  P : Program
  pg : Pg
  ofc : Lk
  w0 : World
  K0 : Ctx

structure Ext (n : Nat) (K K' : Ctx) : Prop where
  le : K.lep K'
  cell : ∀ b o v, K'.cell b o = some v → b < n → K.cell b o = some v
  obj : ∀ b o, K'.obj b = some o → b < n → K.obj b = some o
theorem Ext.refl (n : Nat) (K : Ctx) : Ext n K K := ⟨.refl K, fun _ _ _ h _ => h, fun _ _ h _ => h⟩
theorem Ext.trans {n m : Nat} {A B C : Ctx} (h : Ext n A B) (k : Ext m B C) (hn : n ≤ m) : Ext n A C :=
  ⟨h.le.trans k.le, fun b o v x hb => h.cell b o v (k.cell b o v x (by omega)) hb, fun b o x hb => h.obj b o (k.obj b o x (by omega)) hb⟩

def BlkRel (ofc : Lk) (K : Ctx) (n : Nat) (O : Obj) : Blk → Prop
  | .cells ty cs => ∃ us vs, O = .cells (us ++ vs).toArray ty ∧ DenL K us cs ∧ us.all (·.oneCell') = true ∧ (us ++ vs).length = n
  | .map es => ∃ ents clock, O = .map ents clock ∧ DenE K ents.toList es
  | .iter s pos => O = .stringIter s pos
  | .mark => O = .deferred (some [])
  | .loop q => ∃ fn tmps as bd dn m, O = .loop { state := q.st, pending := q.pe.code, fn, tmps, params := q.ps.toArray, assign := as, body := bd, defers := dn } ∧
      ofc.fn fn ∧ ofc.code q.e.length as q.as ∧ ofc.code q.e.length bd q.bd ∧ tmps.size = q.e.length ∧ (∀ t, t < q.e.length → Den K (tmps.getD t undef) (q.e.getD t .junk)) ∧ (∀ p, p ∈ q.ps → p < q.e.length) ∧ K.loc q.dn = some (dn, m)
  | .par .. => False
  | .kid .. => False
theorem BlkRel.mono {ofc : Lk} {K K' : Ctx} {n : Nat} {O : Obj} {B : Blk} (h : BlkRel ofc K n O B) (hle : K.le K') : BlkRel ofc K' n O B := by
  cases B with
  | par => exact h
  | kid => exact h
  | cells ty cs => obtain ⟨us, vs, h1, h2, h3⟩ := h; exact ⟨us, vs, h1, h2.mono hle, h3⟩
  | map es => obtain ⟨ents, clock, h1, h2⟩ := h; exact ⟨ents, clock, h1, h2.mono hle⟩
  | iter s pos => exact h
  | mark => exact h
  | loop q => obtain ⟨fn, tmps, as, bd, dn, m, h1, h0, h2, h3, h4, h5, h6, h7⟩ := h; exact ⟨fn, tmps, as, bd, dn, m, h1, h0, h2, h3, h4, fun t ht => (h5 t ht).mono hle, h6, hle.loc _ _ h7⟩

theorem BlkRel.plain {ofc : Lk} {K : Ctx} {n : Nat} {O : Obj} {B : Blk} (h : BlkRel ofc K n O B) : Heap.pl (some B) = some B := by
  cases B <;> first | rfl | exact absurd h id

structure Sim (C : Cx) (K : Ctx) (h : Heap) (w : World) : Prop where
  ext : Ext C.w0.heap.size C.K0 K
  glob : ∀ g cs, C.pg.gl g = some cs → Den K (.pointer (some ⟨g, 0, none⟩)) (.eref cs)
  below : Below C.w0.heap.size C.w0 w
  cells : ∀ b o v, K.cell b o = some v → b < w.heap.size ∧ w.cell? ⟨b, o, none⟩ = some v
  objs : ∀ b o, K.obj b = some o → w.heap[b]? = some o ∧ ∃ es c, o = .map es c
  live : ∀ k B, h.get k = some B → ∃ b n O, K.loc k = some (b, n) ∧ C.w0.heap.size ≤ b ∧ w.heap[b]? = some O ∧ BlkRel C.ofc K n O B ∧ (∀ o, K.cell b o = none) ∧ K.obj b = none
  inj : ∀ k k' B B' b n n', h.get k = some B → h.get k' = some B' → K.loc k = some (b, n) → K.loc k' = some (b, n') → k = k'
  fresh : ∀ k, h.raw k = none → K.loc k = none
  froz : ∀ k cs, h.fzd k = some cs → ∃ b n us, K.loc k = some (b, n) ∧ DenL K us cs ∧ us.all (·.oneCell') = true ∧ us.length ≤ n ∧ D.pureL cs = true ∧ ∀ i v, us[i]? = some v → K.cell b i = some v
  vw : ∀ k cs, h.vget k = some cs → ∃ b n us vs ty, K.loc k = some (b, n) ∧ C.w0.heap.size ≤ b ∧ w.heap[b]? = some (.cells (us ++ vs).toArray ty) ∧ DenL K us cs ∧ us.all (·.oneCell') = true ∧ (us ++ vs).length = n ∧ (∀ o, K.cell b o = none) ∧ K.obj b = none ∧ ∀ j B m, h.get j = some B → K.loc j ≠ some (b, m)
  vj : ∀ k k' cs cs' b n n', h.vget k = some cs → h.vget k' = some cs' → K.loc k = some (b, n) → K.loc k' = some (b, n') → k = k' ∨ h.kin k k' ∨ h.kin k' k
theorem Sim.froz_mono {C : Cx} {K K' : Ctx} {h : Heap} {w : World} (s : Sim C K h w) (hle : K.le K') : ∀ k cs, h.fzd k = some cs → ∃ b n us, K'.loc k = some (b, n) ∧ DenL K' us cs ∧ us.all (·.oneCell') = true ∧ us.length ≤ n ∧ D.pureL cs = true ∧ ∀ i v, us[i]? = some v → K'.cell b i = some v := fun k cs x => by
  obtain ⟨b, n, us, h1, h2, h3, h4, h5, h6⟩ := s.froz k cs x
  exact ⟨b, n, us, hle.loc _ _ h1, h2.mono hle, h3, h4, h5, fun i v hi => hle.cell _ _ _ (h6 i v hi)⟩

theorem Sim.step {C : Cx} {K K' : Ctx} {h h' : Heap} {w w' : World} (s : Sim C K h w) (b0 : Nat) (hle : K.le K') (hc : K'.cell = K.cell) (ho : K'.obj = K.obj)
    (hw : Below C.w0.heap.size w w') (hb : ∀ b, b < w.heap.size → b ≠ b0 → w'.heap[b]? = w.heap[b]?) (h0 : (∀ o, K.cell b0 o = none) ∧ K.obj b0 = none) (hn : C.w0.heap.size ≤ b0)
    (hg : ∀ k B, h'.get k = some B → (h.get k = some B ∧ ∃ b n, K.loc k = some (b, n) ∧ b ≠ b0) ∨ ∃ n O, K'.loc k = some (b0, n) ∧ w'.heap[b0]? = some O ∧ BlkRel C.ofc K' n O B)
    (hi : ∀ k k' B B' n n', h'.get k = some B → h'.get k' = some B' → K'.loc k = some (b0, n) → K'.loc k' = some (b0, n') → k = k') (hf : ∀ k, h'.raw k = none → K'.loc k = none) (hz : ∀ k cs, h'.fzd k = some cs → h.fzd k = some cs)
    (hv : ∀ k cs, h'.vget k = some cs → h.vget k = some cs ∧ (∀ n, K.loc k ≠ some (b0, n)) ∧ ∀ B, h.raw k = some (some B) → h'.raw k = some (some B)) : Sim C K' h' w' := by
  refine ⟨⟨s.ext.le.trans hle.lep, fun b o v x y => s.ext.cell b o v (by rw [hc] at x; exact x) y, fun b o x y => s.ext.obj b o (by rw [ho] at x; exact x) y⟩, fun g cs x => (s.glob g cs x).mono hle, s.below.trans hw, fun b o v x => ?_, fun b o x => ?_, fun k B x => ?_, fun k k' B B' b n n' x x' y y' => ?_, hf, fun k cs x => s.froz_mono hle k cs (hz k cs x), fun k cs x => ?_, fun k k' cs cs' b n n' x x' y y' => ?_⟩
  · rw [hc] at x
    have h1 := s.cells b o v x
    have hne : b ≠ b0 := fun e => by subst e; rw [h0.1] at x; cases x
    exact ⟨Nat.lt_of_lt_of_le h1.1 hw.size, (World.cell?_of_block (w := w) (a := ⟨b, o, none⟩) (hb b h1.1 hne)).trans h1.2⟩
  · rw [ho] at x
    have h1 := s.objs b o x
    have hne : b ≠ b0 := fun e => by subst e; rw [h0.2] at x; cases x
    exact ⟨(hb b (Array.getElem?_eq_some_iff.1 h1.1).1 hne).trans h1.1, h1.2⟩
  · rw [hc, ho]
    rcases hg k B x with ⟨h1, b, n, h2, h3⟩ | ⟨n, O, h1, h2, h3⟩
    · obtain ⟨b', n', O, i1, i2, i3, i4, i5⟩ := s.live k B h1
      rw [h2] at i1; cases i1
      exact ⟨b, n, O, hle.loc _ _ h2, i2, (hb b (Array.getElem?_eq_some_iff.1 i3).1 h3).trans i3, i4.mono hle, i5⟩
    · exact ⟨b0, n, O, h1, hn, h2, h3, h0⟩
  · by_cases hbb : b = b0
    · subst hbb; exact hi k k' B B' n n' x x' y y'
    · have key : ∀ k B n, h'.get k = some B → K'.loc k = some (b, n) → h.get k = some B ∧ K.loc k = some (b, n) := fun k B n x y => by
        rcases hg k B x with ⟨h1, b', n', h2, h3⟩ | ⟨n', O, h1, _⟩
        · have := hle.loc _ _ h2
          rw [y] at this; cases this
          exact ⟨h1, h2⟩
        · rw [y] at h1; cases h1; exact absurd rfl hbb
      obtain ⟨a1, a2⟩ := key k B n x y
      obtain ⟨b1, b2⟩ := key k' B' n' x' y'
      exact s.inj k k' B B' b n n' a1 b1 a2 b2
  · obtain ⟨x1, x2, _⟩ := hv k cs x
    obtain ⟨b, n, us, vs, ty, i1, i2, i3, i4, i5, i6, i7, i8, i9⟩ := s.vw k cs x1
    have hne : b ≠ b0 := fun e => by subst e; exact x2 n i1
    refine ⟨b, n, us, vs, ty, hle.loc _ _ i1, i2, (hb b (Array.getElem?_eq_some_iff.1 i3).1 hne).trans i3, i4.mono hle, i5, i6, fun o => by rw [hc]; exact i7 o, by rw [ho]; exact i8, fun j B m y z => ?_⟩
    rcases hg j B y with ⟨h1, b', n', h2, h3⟩ | ⟨n', O, h1, _⟩
    · have := hle.loc _ _ h2
      rw [z] at this; cases this
      exact i9 j B m h1 h2
    · rw [z] at h1; cases h1; exact hne rfl
  · obtain ⟨x1, _, x3⟩ := hv k cs x
    obtain ⟨z1, _, z3⟩ := hv k' cs' x'
    have lk : ∀ k cs n, h.vget k = some cs → K'.loc k = some (b, n) → K.loc k = some (b, n) := fun k cs n x y => by
      obtain ⟨b1, n1, _, _, _, i1, _⟩ := s.vw k cs x
      have := hle.loc _ _ i1
      rw [y] at this; cases this
      exact i1
    rcases s.vj k k' cs cs' b n n' x1 z1 (lk _ _ _ x1 y) (lk _ _ _ z1 y') with e | ⟨t1, c1, t2, c2, r1, r2⟩ | ⟨t1, c1, t2, c2, r1, r2⟩
    · exact .inl e
    · exact .inr (.inl ⟨t1, c1, t2, c2, x3 _ r1, z3 _ r2⟩)
    · exact .inr (.inr ⟨t1, c1, t2, c2, z3 _ r1, x3 _ r2⟩)

theorem Sim.bump {C : Cx} {K : Ctx} {h : Heap} {w : World} (s : Sim C K h w) (n : Nat) : Sim C K (h.bump n) w :=
  ⟨s.ext, s.glob, s.below, s.cells, s.objs, s.live, s.inj, s.fresh, s.froz, s.vw, s.vj⟩
theorem Sim.drawn {C : Cx} {K : Ctx} {h : Heap} {w : World} (s : Sim C K h w) (n : Nat) : Sim C K h { w with drawn := n } :=
  ⟨s.ext, s.glob, ⟨s.below.os, s.below.tape, s.below.output, s.below.size, s.below.block⟩, s.cells, s.objs, s.live, s.inj, s.fresh, s.froz, s.vw, s.vj⟩

theorem alloc_some {h h' : Heap} {t : Nat} {B : Blk} (x : h.alloc t B = some h') : h.raw t = none ∧ h' = h.set t (some B) := by
  unfold Heap.alloc at x
  cases y : h.raw t with
  | none => rw [y] at x; cases x; exact ⟨rfl, rfl⟩
  | some b => rw [y] at x; cases x

def Ctx.at (K : Ctx) (t b n : Nat) : Ctx := { K with loc := fun k => if k = t then some (b, n) else K.loc k }
theorem Ctx.at_same (K : Ctx) (t b n : Nat) : (K.at t b n).loc t = some (b, n) := by simp [Ctx.at]
theorem Ctx.at_ne (K : Ctx) {t k : Nat} (b n : Nat) (h : k ≠ t) : (K.at t b n).loc k = K.loc k := by simp [Ctx.at, h]
theorem Ctx.at_le {K : Ctx} {t : Nat} (b n : Nat) (h : K.loc t = none) : K.le (K.at t b n) :=
  ⟨fun _ _ _ x => x, fun _ _ x => x, fun k p x => by
    by_cases hk : k = t
    · subst hk; rw [h] at x; cases x
    · rw [K.at_ne b n hk]; exact x⟩

theorem Sim.old {C : Cx} {K : Ctx} {h : Heap} {w : World} (s : Sim C K h w) {b : Nat} (hb : w.heap.size ≤ b) : (∀ o, K.cell b o = none) ∧ K.obj b = none := by
  refine ⟨fun o => ?_, ?_⟩
  · cases hx : K.cell b o with
    | none => rfl
    | some v => have := (s.cells b o v hx).1; omega
  · cases hx : K.obj b with
    | none => rfl
    | some v => have := (Array.getElem?_eq_some_iff.1 (s.objs b v hx).1).1; omega
theorem Sim.lt {C : Cx} {K : Ctx} {h : Heap} {w : World} (s : Sim C K h w) {k : Nat} {B : Blk} (x : h.get k = some B) {b n : Nat} (y : K.loc k = some (b, n)) : b < w.heap.size := by
  obtain ⟨b', n', O, i1, _, i3, _⟩ := s.live k B x
  rw [y] at i1; cases i1
  exact (Array.getElem?_eq_some_iff.1 i3).1

theorem Sim.vw_lt {C : Cx} {K : Ctx} {h : Heap} {w : World} (s : Sim C K h w) {k : Nat} {cs : List D} (x : h.vget k = some cs) {b n : Nat} (y : K.loc k = some (b, n)) : b < w.heap.size := by
  obtain ⟨b', n', us, vs, ty, i1, _, i3, _⟩ := s.vw k cs x
  rw [y] at i1; cases i1
  exact (Array.getElem?_eq_some_iff.1 i3).1
theorem Sim.vw_ne {C : Cx} {K : Ctx} {h : Heap} {w : World} (s : Sim C K h w) {k : Nat} {cs : List D} (x : h.vget k = some cs) {j : Nat} {B : Blk} (hj : h.get j = some B) {b n : Nat} (hl : K.loc j = some (b, n)) (m : Nat) : K.loc k ≠ some (b, m) := fun e => by
  obtain ⟨b', n', us, vs, ty, i1, _, _, _, _, _, _, _, i9⟩ := s.vw k cs x
  rw [e] at i1; cases i1
  exact i9 j B n hj hl
theorem Sim.new {C : Cx} {K : Ctx} {h h' : Heap} {w w' : World} (s : Sim C K h w) {t : Nat} {B : Blk} (ha : h.alloc t B = some h') (n : Nat) {O : Obj}
    (hw : Below w.heap.size w w') (hO : w'.heap[w.heap.size]? = some O) (hB : BlkRel C.ofc (K.at t w.heap.size n) n O B) : K.le (K.at t w.heap.size n) ∧ Sim C (K.at t w.heap.size n) h' w' := by
  obtain ⟨hr, rfl⟩ := alloc_some ha
  have hl := s.fresh t hr
  have hle := Ctx.at_le w.heap.size n hl
  refine ⟨hle, s.step w.heap.size hle rfl rfl (hw.mono s.below.size) (fun b hb _ => hw.block b hb) (s.old (Nat.le_refl _)) s.below.size (fun k B' x => ?_) (fun k k' B1 B2 n1 n2 x x' y y' => ?_) (fun k x => ?_) (fun _ _ => Heap.fzd_of_set) (fun k cs x => ?_)⟩
  · by_cases hk : k = t
    · subst hk; have x := Heap.get_set_sm x; cases x
      exact .inr ⟨n, O, K.at_same _ _ _, hO, hB⟩
    · rw [Heap.get_set_ne _ _ hk] at x
      obtain ⟨b, m, _, i1, _, i3, _⟩ := s.live k B' x
      exact .inl ⟨x, b, m, i1, by have := (Array.getElem?_eq_some_iff.1 i3).1; omega⟩
  · have one : ∀ k B1 n1, (h.set t (some B)).get k = some B1 → (K.at t w.heap.size n).loc k = some (w.heap.size, n1) → k = t := fun k B1 n1 x y => by
      by_cases hk : k = t
      · exact hk
      · rw [Heap.get_set_ne _ _ hk] at x
        rw [K.at_ne _ _ hk] at y
        have := s.lt x y; omega
    rw [one k B1 n1 x y, one k' B2 n2 x' y']
  · by_cases hk : k = t
    · subst hk; rw [Heap.raw_set_same] at x; cases x
    · rw [Heap.raw_set_ne _ _ hk] at x; rw [K.at_ne _ _ hk]; exact s.fresh k x
  · obtain ⟨x1, x2, _⟩ := Heap.vget_of_set hB.plain x
    exact ⟨x2, fun m e => by have := s.vw_lt x2 e; omega, fun B1 r => by rw [Heap.raw_set_ne _ _ x1]; exact r⟩

theorem Sim.turn {C : Cx} {K : Ctx} {h : Heap} {w w' : World} (s : Sim C K h w) {k : Nat} {B0 B : Blk} (hk : h.get k = some B0) {b n : Nat} (hl : K.loc k = some (b, n)) {O : Obj}
    (hw : w.grownBy w' (some b)) (hO : w'.heap[b]? = some O) (hB : BlkRel C.ofc K n O B) : Sim C K (h.set k (some B)) w' := by
  obtain ⟨b', n', O', i1, i2, i3, i4, i5⟩ := s.live k B0 hk
  rw [hl] at i1; cases i1
  have hbel : Below C.w0.heap.size w w' := ⟨hw.os, hw.tape, hw.output, hw.size, fun j hj => hw.block j (Nat.lt_of_lt_of_le hj s.below.size) (fun e => by cases e; omega)⟩
  refine s.step b (.refl K) rfl rfl hbel (fun j hj hne => hw.block j hj (fun e => hne (Option.some.inj e))) i5 i2 (fun j B' x => ?_) (fun j j' B1 B2 n1 n2 x x' y y' => ?_) (fun j x => ?_) (fun _ _ => Heap.fzd_of_set) (fun j cs x => ?_)
  · by_cases hj : j = k
    · subst hj; have x := Heap.get_set_sm x; cases x
      exact .inr ⟨n, O, hl, hO, hB⟩
    · rw [Heap.get_set_ne _ _ hj] at x
      obtain ⟨b2, m, _, j1, _, j3, _⟩ := s.live j B' x
      exact .inl ⟨x, b2, m, j1, fun e => by subst e; exact hj (s.inj j k B' B0 b2 m n x hk j1 hl)⟩
  · have one : ∀ j B1 n1, (h.set k (some B)).get j = some B1 → K.loc j = some (b, n1) → j = k := fun j B1 n1 x y => by
      by_cases hj : j = k
      · exact hj
      · rw [Heap.get_set_ne _ _ hj] at x
        exact s.inj j k B1 B0 b n1 n x hk y hl
    rw [one j B1 n1 x y, one j' B2 n2 x' y']
  · by_cases hj : j = k
    · subst hj; rw [Heap.raw_set_same] at x; cases x
    · rw [Heap.raw_set_ne _ _ hj] at x; exact s.fresh j x
  · obtain ⟨x1, x2, _⟩ := Heap.vget_of_set hB.plain x
    exact ⟨x2, s.vw_ne x2 hk hl, fun B1 r => by rw [Heap.raw_set_ne _ _ x1]; exact r⟩

theorem Sim.drop {C : Cx} {K : Ctx} {h : Heap} {w : World} (s : Sim C K h w) {k : Nat} {B0 : Blk} (hk : h.get k = some B0) : Sim C K (h.set k none) w := by
  refine ⟨s.ext, s.glob, s.below, s.cells, s.objs, fun j B x => ?_, fun j j' B B' b n n' x x' => ?_, fun j x => ?_, fun j cs x => s.froz j cs (Heap.fzd_of_set x), fun j cs x => ?_, fun j j' cs cs' b n n' x x' y y' => ?_⟩
  · by_cases hj : j = k
    · subst hj; have x := Heap.get_set_sm x; cases x
    · rw [Heap.get_set_ne _ _ hj] at x; exact s.live j B x
  · by_cases hj : j = k
    · subst hj; have x := Heap.get_set_sm x; cases x
    · by_cases hj' : j' = k
      · subst hj'; have x' := Heap.get_set_sm x'; cases x'
      · rw [Heap.get_set_ne _ _ hj] at x; rw [Heap.get_set_ne _ _ hj'] at x'; exact s.inj j j' B B' b n n' x x'
  · by_cases hj : j = k
    · subst hj; rw [Heap.raw_set_same] at x; cases x
    · rw [Heap.raw_set_ne _ _ hj] at x; exact s.fresh j x
  · obtain ⟨x1, x2, _⟩ := Heap.vget_of_set rfl x
    obtain ⟨b, n, us, vs, ty, i1, i2, i3, i4, i5, i6, i7, i8, i9⟩ := s.vw j cs x2
    exact ⟨b, n, us, vs, ty, i1, i2, i3, i4, i5, i6, i7, i8, fun i B m y => i9 i B m (by
      by_cases hi : i = k
      · subst hi; have y := Heap.get_set_sm y; cases y
      · rwa [Heap.get_set_ne _ _ hi] at y)⟩
  · obtain ⟨x1, x2, _⟩ := Heap.vget_of_set rfl x
    obtain ⟨z1, z2, _⟩ := Heap.vget_of_set rfl x'
    rcases s.vj j j' cs cs' b n n' x2 z2 y y' with e | ⟨t1, c1, t2, c2, r1, r2⟩ | ⟨t1, c1, t2, c2, r1, r2⟩
    · exact .inl e
    · exact .inr (.inl ⟨t1, c1, t2, c2, by rw [Heap.raw_set_ne _ _ x1]; exact r1, by rw [Heap.raw_set_ne _ _ z1]; exact r2⟩)
    · exact .inr (.inr ⟨t1, c1, t2, c2, by rw [Heap.raw_set_ne _ _ z1]; exact r1, by rw [Heap.raw_set_ne _ _ x1]; exact r2⟩)

theorem Sim.move {C : Cx} {K : Ctx} {h h' : Heap} {w w' : World} (s : Sim C K h w) {k : Nat} {B0 B : Blk} (hk : h.get k = some B0) {t : Nat} (ha : (h.set k none).alloc t B = some h') {b n : Nat} (hl : K.loc k = some (b, n)) {O : Obj}
    (hw : w.grownBy w' (some b)) (hO : w'.heap[b]? = some O) (hB : BlkRel C.ofc (K.at t b n) n O B) : K.le (K.at t b n) ∧ Sim C (K.at t b n) h' w' := by
  obtain ⟨hr, rfl⟩ := alloc_some ha
  have hkt : t ≠ k := fun e => by subst e; rw [Heap.raw_set_same] at hr; cases hr
  have hlt := s.fresh t (by rw [← Heap.raw_set_ne h none hkt]; exact hr)
  have hle := Ctx.at_le b n hlt
  obtain ⟨b', n', O', i1, i2, i3, i4, i5⟩ := s.live k B0 hk
  rw [hl] at i1; cases i1
  have hbel : Below C.w0.heap.size w w' := ⟨hw.os, hw.tape, hw.output, hw.size, fun j hj => hw.block j (Nat.lt_of_lt_of_le hj s.below.size) (fun e => by cases e; omega)⟩
  have get : ∀ j B1, ((h.set k none).set t (some B)).get j = some B1 → (j = t ∧ B1 = B) ∨ (j ≠ t ∧ j ≠ k ∧ h.get j = some B1) := fun j B1 x => by
    by_cases hj : j = t
    · subst hj; have x := Heap.get_set_sm x; cases x; exact .inl ⟨rfl, rfl⟩
    · rw [Heap.get_set_ne _ _ hj] at x
      by_cases hjk : j = k
      · subst hjk; have x := Heap.get_set_sm x; cases x
      · rw [Heap.get_set_ne _ _ hjk] at x; exact .inr ⟨hj, hjk, x⟩
  refine ⟨hle, s.step b hle rfl rfl hbel (fun j hj hne => hw.block j hj (fun e => hne (Option.some.inj e))) i5 i2 (fun j B1 x => ?_) (fun j j' B1 B2 n1 n2 x x' y y' => ?_) (fun j x => ?_) (fun _ _ x => Heap.fzd_of_set (Heap.fzd_of_set x)) (fun j cs x => ?_)⟩
  · rcases get j B1 x with ⟨rfl, rfl⟩ | ⟨h1, h2, h3⟩
    · exact .inr ⟨n, O, K.at_same _ _ _, hO, hB⟩
    · obtain ⟨b2, m, _, j1, _⟩ := s.live j B1 h3
      exact .inl ⟨h3, b2, m, j1, fun e => by subst e; exact h2 (s.inj j k B1 B0 b2 m n h3 hk j1 hl)⟩
  · have one : ∀ j B1 n1, ((h.set k none).set t (some B)).get j = some B1 → (K.at t b n).loc j = some (b, n1) → j = t := fun j B1 n1 x y => by
      rcases get j B1 x with ⟨rfl, rfl⟩ | ⟨h1, h2, h3⟩
      · rfl
      · rw [K.at_ne _ _ h1] at y
        exact absurd (s.inj j k B1 B0 b n1 n h3 hk y hl) h2
    rw [one j B1 n1 x y, one j' B2 n2 x' y']
  · by_cases hj : j = t
    · subst hj; rw [Heap.raw_set_same] at x; cases x
    · rw [Heap.raw_set_ne _ _ hj] at x
      by_cases hjk : j = k
      · subst hjk; rw [Heap.raw_set_same] at x; cases x
      · rw [Heap.raw_set_ne _ _ hjk] at x; rw [K.at_ne _ _ hj]; exact s.fresh j x
  · obtain ⟨x1, x2, _⟩ := Heap.vget_of_set hB.plain x
    obtain ⟨x3, x4, _⟩ := Heap.vget_of_set rfl x2
    exact ⟨x4, s.vw_ne x4 hk hl, fun B1 r => by rw [Heap.raw_set_ne _ _ x1, Heap.raw_set_ne _ _ x3]; exact r⟩

theorem Sim.grow {C : Cx} {K K' : Ctx} {h : Heap} {w w' : World} (s : Sim C K h w) (hw : Below w.heap.size w w') (hE : Ext w.heap.size K K') (hl : K'.loc = K.loc)
    (hc : ∀ b o v, K'.cell b o = some v → w.heap.size ≤ b → b < w'.heap.size ∧ w'.cell? ⟨b, o, none⟩ = some v) (ho : ∀ b o, K'.obj b = some o → w.heap.size ≤ b → w'.heap[b]? = some o ∧ ∃ es c, o = .map es c) : Sim C K' h w' := by
  have hle : K.le K' := ⟨hE.le.cell, hE.le.obj, fun k p x => by rw [hl]; exact x⟩
  refine ⟨s.ext.trans hE s.below.size, fun g cs x => (s.glob g cs x).mono hle, s.below.trans (hw.mono s.below.size), fun b o v x => ?_, fun b o x => ?_, fun k B x => ?_, fun k k' B B' b n n' x x' y y' => s.inj k k' B B' b n n' x x' (by rw [hl] at y; exact y) (by rw [hl] at y'; exact y'), fun k x => by rw [hl]; exact s.fresh k x, s.froz_mono hle, fun k cs x => ?_, fun k k' cs cs' b n n' x x' y y' => s.vj k k' cs cs' b n n' x x' (by rw [hl] at y; exact y) (by rw [hl] at y'; exact y')⟩
  · by_cases hb : b < w.heap.size
    · have h1 := s.cells b o v (hE.cell b o v x hb)
      exact ⟨Nat.lt_of_lt_of_le hb hw.size, (hw.cell (p := ⟨b, o, none⟩) hb).trans h1.2⟩
    · exact hc b o v x (by omega)
  · by_cases hb : b < w.heap.size
    · have h1 := s.objs b o (hE.obj b o x hb)
      exact ⟨(hw.block b hb).trans h1.1, h1.2⟩
    · exact ho b o x (by omega)
  · obtain ⟨b, n, O, i1, i2, i3, i4, i5, i6⟩ := s.live k B x
    have hb := (Array.getElem?_eq_some_iff.1 i3).1
    refine ⟨b, n, O, hle.loc _ _ i1, i2, (hw.block b hb).trans i3, i4.mono hle, fun o => ?_, ?_⟩
    · cases hx : K'.cell b o with
      | none => rfl
      | some v => have := hE.cell b o v hx hb; rw [i5 o] at this; cases this
    · cases hx : K'.obj b with
      | none => rfl
      | some v => have := hE.obj b v hx hb; rw [i6] at this; cases this
  · obtain ⟨b, n, us, vs, ty, i1, i2, i3, i4, i5, i6, i7, i8, i9⟩ := s.vw k cs x
    have hb := (Array.getElem?_eq_some_iff.1 i3).1
    refine ⟨b, n, us, vs, ty, hle.loc _ _ i1, i2, (hw.block b hb).trans i3, i4.mono hle, i5, i6, fun o => ?_, ?_, fun j B m y z => i9 j B m y (by rw [hl] at z; exact z)⟩
    · cases hx : K'.cell b o with
      | none => rfl
      | some v => have := hE.cell b o v hx hb; rw [i7 o] at this; cases this
    · cases hx : K'.obj b with
      | none => rfl
      | some v => have := hE.obj b v hx hb; rw [i8] at this; cases this

theorem Sim.dropA {C : Cx} {K : Ctx} {h : Heap} {w : World} (s : Sim C K h w) (k : Nat) : Sim C K (h.set k none) w := by
  refine ⟨s.ext, s.glob, s.below, s.cells, s.objs, fun j B x => ?_, fun j j' B B' b n n' x x' => ?_, fun j x => ?_, fun j cs x => s.froz j cs (Heap.fzd_of_set x), fun j cs x => ?_, fun j j' cs cs' b n n' x x' y y' => ?_⟩
  · by_cases hj : j = k
    · subst hj; have x := Heap.get_set_sm x; cases x
    · rw [Heap.get_set_ne _ _ hj] at x; exact s.live j B x
  · by_cases hj : j = k
    · subst hj; have x := Heap.get_set_sm x; cases x
    · by_cases hj' : j' = k
      · subst hj'; have x' := Heap.get_set_sm x'; cases x'
      · rw [Heap.get_set_ne _ _ hj] at x; rw [Heap.get_set_ne _ _ hj'] at x'; exact s.inj j j' B B' b n n' x x'
  · by_cases hj : j = k
    · subst hj; rw [Heap.raw_set_same] at x; cases x
    · rw [Heap.raw_set_ne _ _ hj] at x; exact s.fresh j x
  · obtain ⟨x1, x2, _⟩ := Heap.vget_of_set rfl x
    obtain ⟨b, n, us, vs, ty, i1, i2, i3, i4, i5, i6, i7, i8, i9⟩ := s.vw j cs x2
    exact ⟨b, n, us, vs, ty, i1, i2, i3, i4, i5, i6, i7, i8, fun i B m y => i9 i B m (by
      by_cases hi : i = k
      · subst hi; have y := Heap.get_set_sm y; cases y
      · rwa [Heap.get_set_ne _ _ hi] at y)⟩
  · obtain ⟨x1, x2, _⟩ := Heap.vget_of_set rfl x
    obtain ⟨z1, z2, _⟩ := Heap.vget_of_set rfl x'
    rcases s.vj j j' cs cs' b n n' x2 z2 y y' with e | ⟨t1, c1, t2, c2, r1, r2⟩ | ⟨t1, c1, t2, c2, r1, r2⟩
    · exact .inl e
    · exact .inr (.inl ⟨t1, c1, t2, c2, by rw [Heap.raw_set_ne _ _ x1]; exact r1, by rw [Heap.raw_set_ne _ _ z1]; exact r2⟩)
    · exact .inr (.inr ⟨t1, c1, t2, c2, by rw [Heap.raw_set_ne _ _ z1]; exact r1, by rw [Heap.raw_set_ne _ _ x1]; exact r2⟩)
theorem Sim.take {C : Cx} {K : Ctx} {h h' : Heap} {w w' : World} (s : Sim C K h w) {b n : Nat} (hsz : C.w0.heap.size ≤ b) (h0 : (∀ o, K.cell b o = none) ∧ K.obj b = none) (nl : ∀ j B m, h.get j = some B → K.loc j ≠ some (b, m)) (nv : ∀ j cs m, h.vget j = some cs → K.loc j ≠ some (b, m))
    {t : Nat} {B : Blk} (ha : h.alloc t B = some h') {O : Obj} (hw : w.grownBy w' (some b)) (hO : w'.heap[b]? = some O) (hB : BlkRel C.ofc (K.at t b n) n O B) : K.le (K.at t b n) ∧ Sim C (K.at t b n) h' w' := by
  obtain ⟨hr, rfl⟩ := alloc_some ha
  have hl := s.fresh t hr
  have hle := Ctx.at_le b n hl
  have hbel : Below C.w0.heap.size w w' := ⟨hw.os, hw.tape, hw.output, hw.size, fun j hj => hw.block j (Nat.lt_of_lt_of_le hj s.below.size) (fun e => by cases e; omega)⟩
  refine ⟨hle, s.step b hle rfl rfl hbel (fun j hj hne => hw.block j hj (fun e => hne (Option.some.inj e))) h0 hsz (fun k B' x => ?_) (fun k k' B1 B2 n1 n2 x x' y y' => ?_) (fun k x => ?_) (fun _ _ => Heap.fzd_of_set) (fun k cs x => ?_)⟩
  · by_cases hk : k = t
    · subst hk; have x := Heap.get_set_sm x; cases x
      exact .inr ⟨n, O, K.at_same _ _ _, hO, hB⟩
    · rw [Heap.get_set_ne _ _ hk] at x
      obtain ⟨b2, m, _, i1, _⟩ := s.live k B' x
      exact .inl ⟨x, b2, m, i1, fun e => by subst e; exact nl k B' m x i1⟩
  · have one : ∀ k B1 n1, (h.set t (some B)).get k = some B1 → (K.at t b n).loc k = some (b, n1) → k = t := fun k B1 n1 x y => by
      by_cases hk : k = t
      · exact hk
      · rw [Heap.get_set_ne _ _ hk] at x
        rw [K.at_ne _ _ hk] at y
        exact absurd y (nl k B1 n1 x)
    rw [one k B1 n1 x y, one k' B2 n2 x' y']
  · by_cases hk : k = t
    · subst hk; rw [Heap.raw_set_same] at x; cases x
    · rw [Heap.raw_set_ne _ _ hk] at x; rw [K.at_ne _ _ hk]; exact s.fresh k x
  · obtain ⟨x1, x2, _⟩ := Heap.vget_of_set hB.plain x
    exact ⟨x2, fun m => nv k cs m x2, fun B1 r => by rw [Heap.raw_set_ne _ _ x1]; exact r⟩
theorem Sim.fork {C : Cx} {K : Ctx} {h : Heap} {w : World} (s : Sim C K h w) {k t : Nat} (hkt : t ≠ k) {b1 n1 b2 n2 : Nat} {us1 vs1 us2 vs2 : List Value} {ty1 ty2 tp tk : TypeId} {cs1 cs2 : List D} (rk : h.raw k = some none) (rt : h.raw t = some none)
    (l1 : K.loc k = some (b1, n1)) (z1 : C.w0.heap.size ≤ b1) (m1 : w.heap[b1]? = some (.cells (us1 ++ vs1).toArray ty1)) (d1 : DenL K us1 cs1) (o1 : us1.all (·.oneCell') = true) (e1 : (us1 ++ vs1).length = n1) (c1 : ∀ o, K.cell b1 o = none) (j1 : K.obj b1 = none) (u1 : ∀ j B m, h.get j = some B → K.loc j ≠ some (b1, m)) (v1 : ∀ j cs m, h.vget j = some cs → K.loc j ≠ some (b1, m))
    (l2 : K.loc t = some (b2, n2)) (z2 : C.w0.heap.size ≤ b2) (m2 : w.heap[b2]? = some (.cells (us2 ++ vs2).toArray ty2)) (d2 : DenL K us2 cs2) (o2 : us2.all (·.oneCell') = true) (e2 : (us2 ++ vs2).length = n2) (c2 : ∀ o, K.cell b2 o = none) (j2 : K.obj b2 = none) (u2 : ∀ j B m, h.get j = some B → K.loc j ≠ some (b2, m)) (v2 : ∀ j cs m, h.vget j = some cs → K.loc j ≠ some (b2, m)) :
    Sim C K ((h.set k (some (.par tp cs1 t))).set t (some (.kid tk cs2 k))) w := by
  have hg : ∀ j B, ((h.set k (some (.par tp cs1 t))).set t (some (.kid tk cs2 k))).get j = some B → h.get j = some B := fun j B x => by
    by_cases hj : j = t
    · subst hj; rw [Heap.get_set_same] at x; cases x
    · rw [Heap.get_set_ne _ _ hj] at x
      by_cases hjk : j = k
      · subst hjk; rw [Heap.get_set_same] at x; cases x
      · rwa [Heap.get_set_ne _ _ hjk] at x
  have rawk : ((h.set k (some (.par tp cs1 t))).set t (some (.kid tk cs2 k))).raw k = some (some (.par tp cs1 t)) := by rw [Heap.raw_set_ne _ _ (Ne.symm hkt), Heap.raw_set_same]
  have rawt : ((h.set k (some (.par tp cs1 t))).set t (some (.kid tk cs2 k))).raw t = some (some (.kid tk cs2 k)) := Heap.raw_set_same _ _ _
  have rawo : ∀ j, j ≠ k → j ≠ t → ((h.set k (some (.par tp cs1 t))).set t (some (.kid tk cs2 k))).raw j = h.raw j := fun j a b => by rw [Heap.raw_set_ne _ _ b, Heap.raw_set_ne _ _ a]
  have hv : ∀ j cs, ((h.set k (some (.par tp cs1 t))).set t (some (.kid tk cs2 k))).vget j = some cs → (j = k ∧ cs = cs1) ∨ (j = t ∧ cs = cs2) ∨ (j ≠ k ∧ j ≠ t ∧ h.vget j = some cs) := fun j cs x => by
    by_cases hjk : j = k
    · subst hjk; rw [Heap.vget_par rawk] at x; cases x; exact .inl ⟨rfl, rfl⟩
    · by_cases hj : j = t
      · subst hj; rw [Heap.vget_kid rawt rawk] at x; cases x; exact .inr (.inl ⟨rfl, rfl⟩)
      · refine .inr (.inr ⟨hjk, hj, ?_⟩)
        rcases Heap.vget_cases x with ⟨ty, u, r⟩ | ⟨ty, p, ty', cs', r, r'⟩
        · rw [rawo j hjk hj] at r; exact Heap.vget_par r
        · rw [rawo j hjk hj] at r
          by_cases hpk : p = k
          · subst hpk; rw [rawk] at r'; cases r'; exact absurd rfl hj
          · by_cases hpt : p = t
            · subst hpt; rw [rawt] at r'; cases r'
            · rw [rawo p hpk hpt] at r'; exact Heap.vget_kid r r'
  refine ⟨s.ext, s.glob, s.below, s.cells, s.objs, fun j B x => s.live j B (hg j B x), fun j j' B B' b n n' x x' => s.inj j j' B B' b n n' (hg j B x) (hg j' B' x'), fun j x => ?_, fun j cs x => s.froz j cs (Heap.fzd_of_set (Heap.fzd_of_set x)), fun j cs x => ?_, fun j j' cs cs' b n n' x x' y y' => ?_⟩
  · by_cases hjk : j = k
    · subst hjk; rw [rawk] at x; cases x
    · by_cases hj : j = t
      · subst hj; rw [rawt] at x; cases x
      · rw [rawo j hjk hj] at x; exact s.fresh j x
  · rcases hv j cs x with ⟨rfl, rfl⟩ | ⟨rfl, rfl⟩ | ⟨_, _, x2⟩
    · exact ⟨b1, n1, us1, vs1, ty1, l1, z1, m1, d1, o1, e1, c1, j1, fun i B m y => u1 i B m (hg i B y)⟩
    · exact ⟨b2, n2, us2, vs2, ty2, l2, z2, m2, d2, o2, e2, c2, j2, fun i B m y => u2 i B m (hg i B y)⟩
    · obtain ⟨b, n, us, vs, ty, i1, i2, i3, i4, i5, i6, i7, i8, i9⟩ := s.vw j cs x2
      exact ⟨b, n, us, vs, ty, i1, i2, i3, i4, i5, i6, i7, i8, fun i B m y => i9 i B m (hg i B y)⟩
  · have kn : ((h.set k (some (.par tp cs1 t))).set t (some (.kid tk cs2 k))).kin k t := ⟨_, _, _, _, rawk, rawt⟩
    rcases hv j cs x with ⟨rfl, rfl⟩ | ⟨rfl, rfl⟩ | ⟨a1, a2, x2⟩ <;> rcases hv j' cs' x' with ⟨rfl, rfl⟩ | ⟨rfl, rfl⟩ | ⟨a3, a4, x3⟩
    · exact .inl rfl
    · exact .inr (.inl kn)
    · rw [l1] at y; cases y; exact absurd y' (v1 _ _ _ x3)
    · exact .inr (.inr kn)
    · exact .inl rfl
    · rw [l2] at y; cases y; exact absurd y' (v2 _ _ _ x3)
    · rw [l1] at y'; cases y'; exact absurd y (v1 _ _ _ x2)
    · rw [l2] at y'; cases y'; exact absurd y (v2 _ _ _ x2)
    · rcases s.vj j j' cs cs' b n n' x2 x3 y y' with e | ⟨t1, c1, t2, c2, r1, r2⟩ | ⟨t1, c1, t2, c2, r1, r2⟩
      · exact .inl e
      · exact .inr (.inl ⟨t1, c1, t2, c2, by rw [rawo j a1 a2]; exact r1, by rw [rawo j' a3 a4]; exact r2⟩)
      · exact .inr (.inr ⟨t1, c1, t2, c2, by rw [rawo j' a3 a4]; exact r1, by rw [rawo j a1 a2]; exact r2⟩)
end Go.Em
