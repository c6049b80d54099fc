/- A run of an operation does what its small operation says: values, boxes, fields. -/
import Derived.Test.YtkbamkdgiglljaaGreatEmF
namespace Go.Em
open Go Go.RowKit

structure Fr (K : Ctx) (N : Nat) (e : List D) (a : Act) : Prop where
  size : a.tmps.size = N
  len : e.length = N
  slots : ∀ t, t < N → Den K (a.tmps.getD t undef) (e.getD t .junk)
theorem Fr.mono {K K' : Ctx} {N : Nat} {e : List D} {a : Act} (f : Fr K N e a) (h : K.le K') : Fr K' N e a := ⟨f.size, f.len, fun t ht => (f.slots t ht).mono h⟩

theorem getD_put (a : Act) (t s : Nat) (v : Value) : (a.put (some t) v).tmps.getD s undef = if s = t ∧ t < a.tmps.size then v else a.tmps.getD s undef := by
  simp only [Act.put, Array.getD_eq_getD_getElem?, Array.getElem?_setIfInBounds]
  by_cases h : s = t
  · subst h; by_cases h2 : s < a.tmps.size <;> simp [h2]
  · have h' : ¬ t = s := fun x => h x.symm
    simp [h, h']
theorem getD_set (e : List D) (t s : Nat) (d : D) : (e.set t d).getD s .junk = if s = t ∧ t < e.length then d else e.getD s .junk := by
  simp only [List.getD, List.getElem?_set]
  by_cases h : t = s
  · subst h; by_cases h2 : t < e.length <;> simp [h2]
  · have h' : ¬ s = t := fun x => h x.symm
    simp [h, h']
theorem Fr.put {K : Ctx} {N : Nat} {e : List D} {a : Act} (f : Fr K N e a) (t : Option Nat) {v : Value} {d : D} (h : Den K v d) : Fr K N (put e t d) (a.put t v) := by
  cases t with
  | none => exact f
  | some t =>
    refine ⟨by simp [Act.put, f.size], by simp [Em.put, f.len], fun s hs => ?_⟩
    rw [getD_put]
    simp only [Em.put, getD_set]
    rw [f.size, f.len]
    split
    · exact h
    · exact f.slots s hs

def X.of (N : Nat) : Operand → Option X
  | .tmp t => if t < N then some (.s t) else none
  | .const v => if v.oneCell' then some (.c v) else none
  | .func i => some (.f i)
  | .global i => some (.g i)

theorem Fr.rd {C : Cx} {K : Ctx} {h : Heap} {w : World} {N : Nat} {e : List D} {a : Act} (f : Fr K N e a) (s : Sim C K h w) {o : Operand} {x : X} (hx : X.of N o = some x) : Den K (a.eval o) (rd C.pg.gl e x) := by
  cases o with
  | tmp t =>
    simp only [X.of] at hx
    split at hx <;> cases hx
    exact f.slots t (by assumption)
  | const v =>
    simp only [X.of] at hx
    split at hx <;> cases hx
    exact .val _ (by assumption)
  | func f => cases hx; exact .fn (.func f) [] [] [] [] .nil .nil
  | global g =>
    cases hx
    simp only [Em.rd, Act.eval]
    cases hg : C.pg.gl g with
    | none => exact .junk _
    | some cs => exact s.glob g cs hg

theorem Den.val_eq {K : Ctx} {v u : Value} (h : Den K v (.val u)) : v = u := by cases h with | val _ _ => rfl
theorem Den.wk {K : Ctx} {v : Value} {d : D} (h : Den K v d) : Den K v d.wk := by
  unfold D.wk
  split
  · cases h with | val _ _ => exact .slnil _
  · cases h with | val _ _ => exact .mapnil
  · cases h with | sle a cap hc => exact .slw a cap false (fun h => by cases h) hc
  · exact h

inductive Did (P : Program) (o : Oper) (a : Act) (w : World) : Value → World → Prop
  | value (v : Value) (w' : World) : (execOp a.eval o).run P w = .ok (.value v) w' → Did P o a w v w'
  | skip (w' : World) : (execOp a.eval o).run P w = .ok .skip w' → Did P o a w undef w'

def opPlain : Op → Bool
  | .defer _ | .go _ => false
  | .call c => match c.callee with
    | .builtin _ => true
    | _ => false
  | _ => true
theorem plain_defer {o : Oper} (h : opPlain o.op = true) : ∀ c, o.op ≠ .defer c := fun c hc => by rw [hc] at h; cases h
theorem plain_about {o : Oper} (h : opPlain o.op = true) (P : Program) (w : World) (ρ : Operand → Value) : o.about P w ρ = none := by
  unfold Oper.about
  split
  · rename_i c hc
    rw [hc] at h
    unfold opPlain at h
    simp only at h
    split at h
    · rename_i b hb
      simp [resolve, hb, Target.leads]
    · cases h
  · rfl

def MSound (P : Program) (N : Nat) (o : Oper) (m : M) : Prop :=
  opPlain o.op = true ∧ ∀ (C : Cx) (K : Ctx) (h h' : Heap) (w : World) (e : List D) (a : Act) (t : Nat) (d : D), C.P = P → Sim C K h w → Fr K N e a → m.ev C.pg.gl t e h = some (d, h') →
    ∃ v w' K', Did P o a w v w' ∧ K.le K' ∧ Sim C K' h' w' ∧ Den K' v d

theorem still {C : Cx} {K : Ctx} {h : Heap} {w : World} {P : Program} {o : Oper} {a : Act} {v : Value} {d : D} (s : Sim C K h w) (hr : (execOp a.eval o).run P w = .ok (.value v) w) (hd : Den K v d) :
    ∃ v w' K', Did P o a w v w' ∧ K.le K' ∧ Sim C K' h w' ∧ Den K' v d := ⟨v, w, K, .value v w hr, .refl K, s, hd⟩

section
variable {P : Program} {N : Nat} {o : Oper}

theorem sound_mv {x : Operand} {x' : X} (hop : o.op = .move x ∨ o.op = .assign x) (hx : X.of N x = some x') : MSound P N o (.mv x') := by
  refine ⟨(by rcases hop with x | x <;> rw [x] <;> rfl), fun C K h h' w e a t d hP s f hq => ?_⟩
  simp only [M.ev, Option.some.injEq, Prod.mk.injEq] at hq
  obtain ⟨rfl, rfl⟩ := hq
  exact still s (by rcases hop with x | x <;> simp [execOp, x]) (f.rd s hx)

theorem sound_pick {c x y : Operand} {c' x' y' : X} (hop : o.op = .pick c x y) (hc : X.of N c = some c') (hx : X.of N x = some x') (hy : X.of N y = some y') : MSound P N o (.pick c' x' y') := by
  refine ⟨(by rw [hop]; rfl), fun C K h h' w e a t d hP s f hq => ?_⟩
  simp only [M.ev] at hq
  split at hq <;> try cases hq
  rename_i b hb
  have hv := f.rd s hc
  rw [hb] at hv
  have hv := hv.val_eq
  refine still s (v := if b then a.eval x else a.eval y) (by simp [execOp, hop, hv, asBool]) ?_
  cases b
  · exact f.rd s hy
  · exact f.rd s hx

theorem bin_one {op : BinOp} {u v x : Value} (h : bin op u v = some x) : x.oneCell' = true := by
  cases u <;> cases v <;> simp only [bin] at h <;> first | (cases h; done) | exact one_of_ans h

theorem sound_bin {op : BinOp} {ty t' : TypeId} {x y : Operand} {x' y' : X} (hop : o.op = .binOp op ty x y t') (hx : X.of N x = some x') (hy : X.of N y = some y') : MSound P N o (.bin op x' y') := by
  refine ⟨(by rw [hop]; rfl), fun C K h h' w e a t d hP s f hq => ?_⟩
  simp only [M.ev] at hq
  split at hq <;> try cases hq
  rename_i u v hu hv
  simp only [Option.map_eq_some_iff, Prod.mk.injEq] at hq
  obtain ⟨r, hr, rfl, rfl⟩ := hq
  have h1 := f.rd s hx
  have h2 := f.rd s hy
  rw [hu] at h1; rw [hv] at h2
  refine still s (v := r) ?_ (.val _ (bin_one hr))
  have := run_bin (P := P) (t := ty) (x := x) (y := y) hr w
  simp only [execOp, hop, h1.val_eq, h2.val_eq, Sem.run_bind, Sem.run_pure] at this ⊢
  rw [this]; rfl

theorem sound_not {t : TypeId} {x : Operand} {x' : X} (hop : o.op = .unOp .not t x) (hx : X.of N x = some x') : MSound P N o (.not x') := by
  refine ⟨(by rw [hop]; rfl), fun C K h h' w e a t d hP s f hq => ?_⟩
  simp only [M.ev] at hq
  split at hq <;> try cases hq
  rename_i b hb
  have h1 := f.rd s hx
  rw [hb] at h1
  exact still s (v := .bool !b) (by simp [execOp, hop, h1.val_eq, Op.unary]) (.val _ rfl)

theorem sound_neg {t : TypeId} {x : Operand} {x' : X} (hop : o.op = .unOp .neg t x) (hx : X.of N x = some x') : MSound P N o (.neg x') := by
  refine ⟨(by rw [hop]; rfl), fun C K h h' w e a t d hP s f hq => ?_⟩
  simp only [M.ev] at hq
  split at hq <;> try cases hq
  rename_i k n hb
  have h1 := f.rd s hx
  rw [hb] at h1
  exact still s (v := .int k (k.wrap (0 - n))) (by simp [execOp, hop, h1.val_eq, Op.unary, Op.intArith]) (.val _ rfl)

theorem sound_cvi {u t : TypeId} {ks kt : IntKind} {x : Operand} {x' : X} (hop : o.op = .convert u t x) (hx : X.of N x = some x') (hs : P.underlying u = some (.int ks)) (ht : P.underlying t = some (.int kt)) : MSound P N o (.cvi kt x') := by
  refine ⟨(by rw [hop]; rfl), fun C K h h' w e a t0 d hP s f hq => ?_⟩
  simp only [M.ev] at hq
  split at hq <;> try cases hq
  rename_i k n hb
  have h1 := f.rd s hx
  rw [hb] at h1
  refine still s (v := .int kt (kt.wrap n)) ?_ (.val _ rfl)
  simp [execOp, hop, h1.val_eq, convert, run_underlying hs, run_underlying ht, Conv.intToInt]

theorem sound_box {ty : TypeId} {i : TypeInfo} {x : Operand} {x' : X} (hop : o.op = .box ty x) (hx : X.of N x = some x') (_hi : P.info? ty = some i) : MSound P N o (.box ty i.size x') := by
  refine ⟨(by rw [hop]; rfl), fun C K h h' w e a t d hP s f hq => ?_⟩
  simp only [M.ev] at hq
  split at hq <;> try cases hq
  rename_i hc
  simp only [Option.map_eq_some_iff, Prod.mk.injEq] at hq
  obtain ⟨h1, ha, rfl, rfl⟩ := hq
  obtain ⟨i1, i2⟩ := (f.rd s hx).cells hc.2
  have i3 : (a.eval x).cells.toList.all (·.oneCell') = true := by rw [← Array.all_toList] at i2; exact i2
  have hle := Ctx.at_le w.heap.size (a.eval x).cells.size (s.fresh t (alloc_some ha).1)
  obtain ⟨_, s'⟩ := s.new ha (a.eval x).cells.size (w' := w.alloc (.cells (a.eval x).cells ty)) ((Below.refl _ w).alloc (Nat.le_refl _) _) (World.alloc_heap_new w _)
    ⟨(a.eval x).cells.toList, [], by simp, i1.mono hle, i3, by simp⟩
  refine ⟨.pointer (some ⟨w.heap.size, 0, none⟩), _, _, .value _ _ ?_, hle, s', .ptr _ _ _ _ (K.at_same _ _ _)⟩
  simp [execOp, hop, Instr.box, newVar, newRow, newObj, Sem.run]

theorem sound_alloc {ty : TypeId} {i : TypeInfo} {z : Value} (hop : o.op = .alloc ty) (hi : P.info? ty = some i) (hz : i.zero = some z) (h1 : z.cells.toList.all (·.oneCell') = true) : MSound P N o (.alloc ty z.cells.toList) := by
  refine ⟨(by rw [hop]; rfl), fun C K h h' w e a t d hP s f hq => ?_⟩
  simp only [M.ev, Option.map_eq_some_iff, Prod.mk.injEq] at hq
  obtain ⟨h2, ha, rfl, rfl⟩ := hq
  have hle := Ctx.at_le w.heap.size z.cells.size (s.fresh t (alloc_some ha).1)
  obtain ⟨_, s'⟩ := s.new ha z.cells.size (w' := w.alloc (.cells z.cells ty)) ((Below.refl _ w).alloc (Nat.le_refl _) _) (World.alloc_heap_new w _)
    ⟨z.cells.toList, [], by simp, vals_den h1, h1, by simp⟩
  refine ⟨.pointer (some ⟨w.heap.size, 0, none⟩), _, _, .value _ _ ?_, hle, s', .ptr _ _ _ _ (K.at_same _ _ _)⟩
  simp [execOp, hop, Instr.alloc, zeroValue, typeInfo, hi, hz, newVar, newRow, newObj, Sem.run]

theorem Den.ptr_inv {K : Ctx} {v : Value} {k o : Nat} (h : Den K v (.ptr k o)) : ∃ b n, K.loc k = some (b, n) ∧ v = .pointer (some ⟨b, o, none⟩) := by cases h with | ptr _ _ b n hb => exact ⟨b, n, hb, rfl⟩
theorem Den.eref_inv {K : Ctx} {v : Value} {cs : List D} (h : Den K v (.eref cs)) : ∃ b o us, v = .pointer (some ⟨b, o, none⟩) ∧ (∀ i v, us[i]? = some v → K.cell b (o + i) = some v) ∧ DenL K us cs := by
  cases h with | eref b o us _ hc hd => exact ⟨b, o, us, rfl, hc, hd⟩

theorem Sim.block {C : Cx} {K : Ctx} {h : Heap} {w : World} (s : Sim C K h w) {k : Nat} {ty : TypeId} {cs : List D} (hk : h.get k = some (.cells ty cs)) {b n : Nat} (hl : K.loc k = some (b, n)) :
    C.w0.heap.size ≤ b ∧ ∃ us vs, w.heap[b]? = some (.cells (us ++ vs).toArray ty) ∧ DenL K us cs ∧ us.all (·.oneCell') = true ∧ (us ++ vs).length = n := by
  obtain ⟨b', n', O, i1, i2, i3, ⟨us, vs, rfl, j2, j3, j4⟩, _⟩ := s.live k _ hk
  rw [hl] at i1; cases i1
  exact ⟨i2, us, vs, i3, j2, j3, j4⟩
theorem Sim.rblock {C : Cx} {K : Ctx} {h : Heap} {w : World} (s : Sim C K h w) {k : Nat} {cs : List D} (hk : h.rdc k = some cs) {b n : Nat} (hl : K.loc k = some (b, n)) :
    ∃ us, (∀ i v, us[i]? = some v → w.cell? ⟨b, i, none⟩ = some v) ∧ DenL K us cs ∧ us.all (·.oneCell') = true ∧ us.length ≤ n := by
  rcases Heap.rdc_cases hk with ⟨ty, hg⟩ | ⟨_, hg⟩
  · obtain ⟨_, us, vs, g1, g2, g3, g4⟩ := s.block hg hl
    refine ⟨us, fun i v hi => ?_, g2, g3, by rw [← g4, List.length_append]; omega⟩
    simp only [World.cell?, g1]
    have hlt : i < us.length := (List.getElem?_eq_some_iff.1 hi).1
    simpa [List.getElem?_append_left hlt] using hi
  · obtain ⟨b', n', us, h1, h2, h3, h4, h5, h6⟩ := s.froz k cs hg
    rw [hl] at h1; cases h1
    exact ⟨us, fun i v hi => (s.cells _ _ _ (h6 i v hi)).2, h2, h3, h4⟩
theorem Sim.rvblock {C : Cx} {K : Ctx} {h : Heap} {w : World} (s : Sim C K h w) {k : Nat} {cs : List D} (hk : h.rdv k = some cs) {b n : Nat} (hl : K.loc k = some (b, n)) :
    ∃ us, (∀ i v, us[i]? = some v → w.cell? ⟨b, i, none⟩ = some v) ∧ DenL K us cs ∧ us.all (·.oneCell') = true ∧ us.length ≤ n := by
  rcases Heap.rdv_cases hk with hg | ⟨_, hg⟩
  · exact s.rblock hg hl
  · obtain ⟨b', n', us, vs, ty, h1, _, h3, h4, h5, h6, _⟩ := s.vw k cs hg
    rw [hl] at h1; cases h1
    refine ⟨us, fun i v hi => ?_, h4, h5, by rw [← h6, List.length_append]; omega⟩
    simp only [World.cell?, h3]
    have hlt : i < us.length := (List.getElem?_eq_some_iff.1 hi).1
    simpa [List.getElem?_append_left hlt] using hi
theorem cell_of_block {w : World} {b : Nat} {us vs : List Value} {ty : TypeId} (h : w.heap[b]? = some (.cells (us ++ vs).toArray ty)) {j : Nat} {v : Value} (hv : us[j]? = some v) : w.cell? ⟨b, j, none⟩ = some v := by
  simp only [World.cell?, h]
  have hlt : j < us.length := (List.getElem?_eq_some_iff.1 hv).1
  simpa [List.getElem?_append_left hlt] using hv

theorem sound_ld {ty : TypeId} {ag : Bool} {m : Nat} {x : Operand} {x' : X} (hop : o.op = .load ty x) (hx : X.of N x = some x') (hsh : shapeOf P ty = some (ag, m)) : MSound P N o (.ld ag m x') := by
  refine ⟨(by rw [hop]; rfl), fun C K h h' w e a t d hP s f hq => ?_⟩
  have hden := f.rd s hx
  simp only [M.ev] at hq
  split at hq <;> try cases hq
  · rename_i k off hr
    rw [hr] at hden
    obtain ⟨b, n, hl, hv⟩ := hden.ptr_inv
    split at hq <;> try cases hq
    rename_i cs hk
    split at hq <;> try cases hq
    rename_i hn
    obtain ⟨us, g1, g2, g3, g4⟩ := s.rblock hk hl
    obtain ⟨u, hu, hdu⟩ := run_ld (P := P) (w := w) (b := b) (o := off) hsh (g2.drop off) (by rw [List.length_drop]; omega) (fun i v hi => by
      rw [List.getElem?_drop] at hi; exact g1 _ _ hi)
    refine still s (v := u) (by simp [execOp, hop, hv, Instr.loadAt, Instr.sureAddr, hu]) ?_
    cases ag
    · simpa [List.getD] using hdu
    · simpa using hdu
  · rename_i cs hr
    rw [hr] at hden
    obtain ⟨b, off, us, hv, hc, hdl⟩ := hden.eref_inv
    split at hq <;> try cases hq
    rename_i hn
    obtain ⟨u, hu, hdu⟩ := run_ld (P := P) (w := w) (b := b) (o := off) hsh hdl hn (fun i v hi => (s.cells _ _ _ (hc i v hi)).2)
    exact still s (v := u) (by simp [execOp, hop, hv, Instr.loadAt, Instr.sureAddr, hu]) hdu

theorem sound_ldv {ty : TypeId} {ag : Bool} {m : Nat} {x : Operand} {x' : X} (hop : o.op = .load ty x) (hx : X.of N x = some x') (hsh : shapeOf P ty = some (ag, m)) : MSound P N o (.ldv ag m x') := by
  refine ⟨(by rw [hop]; rfl), fun C K h h' w e a t d hP s f hq => ?_⟩
  have hden := f.rd s hx
  simp only [M.ev] at hq
  split at hq <;> try cases hq
  · rename_i k off hr
    rw [hr] at hden
    obtain ⟨b, n, hl, hv⟩ := hden.ptr_inv
    split at hq <;> try cases hq
    rename_i cs hk
    split at hq <;> try cases hq
    rename_i hn
    obtain ⟨us, g1, g2, g3, g4⟩ := s.rvblock hk hl
    obtain ⟨u, hu, hdu⟩ := run_ld (P := P) (w := w) (b := b) (o := off) hsh (g2.drop off) (by rw [List.length_drop]; omega) (fun i v hi => by
      rw [List.getElem?_drop] at hi; exact g1 _ _ hi)
    refine still s (v := u) (by simp [execOp, hop, hv, Instr.loadAt, Instr.sureAddr, hu]) ?_
    cases ag
    · simpa [List.getD] using hdu
    · simpa using hdu
  · rename_i cs hr
    rw [hr] at hden
    obtain ⟨b, off, us, hv, hc, hdl⟩ := hden.eref_inv
    split at hq <;> try cases hq
    rename_i hn
    obtain ⟨u, hu, hdu⟩ := run_ld (P := P) (w := w) (b := b) (o := off) hsh hdl hn (fun i v hi => (s.cells _ _ _ (hc i v hi)).2)
    exact still s (v := u) (by simp [execOp, hop, hv, Instr.loadAt, Instr.sureAddr, hu]) hdu

theorem grown_setRow {w : World} {b : Nat} (cs : Array Value) : w.grownBy (w.setRow b cs) (some b) := ⟨rfl, rfl, rfl, by simp, fun j _ hj => setRow_other w b j _ (fun x => hj (by rw [x]))⟩

theorem run_write {C : Cx} {K : Ctx} {h : Heap} {w : World} (P : Program) (s : Sim C K h w) {k : Nat} {ty : TypeId} {cs : List D} (hk : h.get k = some (.cells ty cs)) {b n : Nat} (hl : K.loc k = some (b, n)) (off : Nat) {ns : List Value} {ds : List D}
    (hd : DenL K ns ds) (h1 : ns.all (·.oneCell') = true) (hn : off + ds.length ≤ cs.length) :
    ∃ w', (storeCells ⟨b, off, none⟩ ns).run P w = .ok () w' ∧ Sim C K (h.set k (some (.cells ty (cs.take off ++ ds ++ cs.drop (off + ds.length))))) w' := by
  obtain ⟨_, us, vs, g1, g2, g3, g4⟩ := s.block hk hl
  have hul := g2.length
  have hnl := hd.length
  have hst := run_storeCells_at P b off ty ns 0 (us ++ vs).toArray w g1 (by simp only [Nat.add_zero, List.size_toArray, List.length_append]; omega) (fun v hv => List.all_eq_true.1 h1 v hv)
  simp only [Nat.add_zero] at hst
  refine ⟨_, hst, s.turn hk hl (grown_setRow _) (setRow_heap w b _ _ ty (0, 0) g1) ⟨us.take off ++ ns ++ us.drop (off + ns.length), vs, ?_, ?_, ?_, ?_⟩⟩
  · congr 2
    rw [List.take_append_of_le_length (by omega), List.drop_append_of_le_length (by omega)]
    simp
  · rw [hnl]; exact ((g2.take off).append hd).append (g2.drop _)
  · rw [List.all_append, List.all_append, h1, Bool.and_true]
    have hm := List.all_eq_true.1 g3
    rw [Bool.and_eq_true]
    exact ⟨List.all_eq_true.2 fun v hv => hm v (List.mem_of_mem_take hv), List.all_eq_true.2 fun v hv => hm v (List.mem_of_mem_drop hv)⟩
  · simp only [List.length_append, List.length_take, List.length_drop] at g4 ⊢; omega

theorem sound_st {ty : TypeId} {i : TypeInfo} {x y : Operand} {x' y' : X} (hop : o.op = .store ty x y) (hx : X.of N x = some x') (hy : X.of N y = some y') (hi : P.info? ty = some i) : MSound P N o (.st i.size x' y') := by
  refine ⟨(by rw [hop]; rfl), fun C K h h' w e a t d hP s f hq => ?_⟩
  have hden := f.rd s hx
  simp only [M.ev] at hq
  split at hq <;> try cases hq
  rename_i k off hr
  rw [hr] at hden
  obtain ⟨b, n, hl, hv⟩ := hden.ptr_inv
  split at hq <;> try cases hq
  rename_i ty' cs hk
  split at hq <;> try cases hq
  rename_i hc
  obtain ⟨hl1, hone, hn⟩ := hc
  obtain ⟨hc1, hc2⟩ := (f.rd s hy).cells hone
  have i3 : (a.eval y).cells.toList.all (·.oneCell') = true := by rw [← Array.all_toList] at hc2; exact hc2
  obtain ⟨w', hst, s'⟩ := run_write P s hk hl off hc1 i3 (by omega)
  rw [hl1] at s'
  refine ⟨undef, w', K, .skip _ ?_, .refl K, s', .junk _⟩
  have hsz : (a.eval y).cells.size = i.size := by have := hc1.length; simp only [Array.length_toList] at this; omega
  simp [execOp, hop, hv, Instr.storeAt, Instr.sureAddr, storeVar, info_size hi, hsz]
  rw [hst]; rfl

theorem sound_nc {x : Operand} {x' : X} (hop : o.op = .nilCheck x) (hx : X.of N x = some x') : MSound P N o (.nc x') := by
  refine ⟨(by rw [hop]; rfl), fun C K h h' w e a t d hP s f hq => ?_⟩
  have hden := f.rd s hx
  obtain ⟨v, hv⟩ : ∃ v, a.eval x = v := ⟨_, rfl⟩
  rw [hv] at hden
  simp only [M.ev] at hq
  split at hq <;> try cases hq
  all_goals
    rename_i hr
    rw [hr] at hden
    refine still s (v := v) ?_ hden
    cases hden <;> simp [execOp, hop, hv]

theorem sound_fa {ty : TypeId} {fs : Array Field} {fi : Nat} {fl : Field} {i : TypeInfo} {x : Operand} {x' : X} (hop : o.op = .fieldAddr ty x fi) (hx : X.of N x = some x')
    (hu : P.underlying ty = some (.struct fs)) (hf : fs[fi]? = some fl) (hi : P.info? fl.type = some i) (hi0 : i.size ≠ 0) : MSound P N o (.fa x' fl.offset) := by
  refine ⟨(by rw [hop]; rfl), fun C K h h' w e a t d hP s f hq => ?_⟩
  have hden := f.rd s hx
  have run : ∀ b off, a.eval x = .pointer (some ⟨b, off, none⟩) → (execOp a.eval o).run P w = .ok (.value (.pointer (some ⟨b, off + fl.offset, none⟩))) w := fun b off hv => by
    simp [execOp, hop, hv, Instr.fieldAt, Instr.sureAddr, run_underlying hu, hf, fieldPlace, info_size hi, hi0, addr_add]
  simp only [M.ev] at hq
  split at hq <;> try cases hq
  · rename_i k off hr
    rw [hr] at hden
    obtain ⟨b, n, hl, hv⟩ := hden.ptr_inv
    exact still s (run b off hv) (.ptr _ _ _ _ hl)
  · rename_i cs hr
    rw [hr] at hden
    obtain ⟨b, off, us, hv, hc, hdl⟩ := hden.eref_inv
    refine still s (run b off hv) (.eref b _ (us.drop fl.offset) _ (fun j v hj => ?_) (hdl.drop _))
    rw [List.getElem?_drop] at hj
    have := hc _ _ hj
    rw [← Nat.add_assoc] at this
    exact this

theorem sound_iaa {ty et : TypeId} {m : Nat} {j : TypeInfo} {x i : Operand} {x' i' : X} (hop : o.op = .indexAddr ty x i) (hx : X.of N x = some x') (hi : X.of N i = some i')
    (hu : P.underlying ty = some (.array m et)) (hj : P.info? et = some j) : MSound P N o (.iaa m j.size x' i') := by
  refine ⟨(by rw [hop]; rfl), fun C K h h' w e a t d hP s f hq => ?_⟩
  have hden := f.rd s hx
  have hdi := f.rd s hi
  simp only [M.ev] at hq
  split at hq <;> try cases hq
  rename_i kd nn hri
  rw [hri] at hdi
  have hiv := hdi.val_eq
  split at hq <;> try cases hq
  rename_i hb
  obtain ⟨h0, h1⟩ := hb
  have run : ∀ b off, a.eval x = .pointer (some ⟨b, off, none⟩) → (execOp a.eval o).run P w = .ok (.value (.pointer (some ⟨b, off + nn.toNat * j.size, none⟩))) w := fun b off hv => by
    simp [execOp, hop, hv, hiv, Instr.indexAt, Instr.sureAddr, asIntOf, run_underlying hu, h0, h1, info_size hj, addr_add]
  split at hq <;> try cases hq
  · rename_i k off hr
    rw [hr] at hden
    obtain ⟨b, n, hl, hv⟩ := hden.ptr_inv
    exact still s (run b off hv) (.ptr _ _ _ _ hl)
  · rename_i cs hr
    rw [hr] at hden
    obtain ⟨b, off, us, hv, hc, hdl⟩ := hden.eref_inv
    refine still s (run b off hv) (.eref b _ (us.drop (nn.toNat * j.size)) _ (fun j v hj => ?_) (hdl.drop _))
    rw [List.getElem?_drop] at hj
    have := hc _ _ hj
    rw [← Nat.add_assoc] at this
    exact this

theorem flat_at {sz : Nat} : ∀ {es : List D} {i : Nat} {c : D}, (∀ e, e ∈ es → e.cells.length = sz) → es[i]? = some c → ((es.flatMap D.cells).drop (i * sz)).take sz = c.cells
  | [], i, c, _, hi => by simp at hi
  | d :: es, 0, c, hl, hi => by
    simp at hi; subst hi
    have := hl d (by simp)
    simp [List.flatMap_cons, ← this]
  | d :: es, i + 1, c, hl, hi => by
    have h1 := hl d (by simp)
    have := flat_at (es := es) (i := i) (fun e he => hl e (by simp [he])) (by simpa using hi)
    rw [List.flatMap_cons, Nat.add_mul, Nat.one_mul, Nat.add_comm, ← List.drop_drop, List.drop_left' h1]
    exact this

theorem sound_ias {ty et : TypeId} {j : TypeInfo} {x i : Operand} {x' i' : X} (hop : o.op = .indexAddr ty x i) (hx : X.of N x = some x') (hi : X.of N i = some i')
    (hu : P.underlying ty = some (.slice et)) (hj : P.info? et = some j) : MSound P N o (.ias j.size x' i') := by
  refine ⟨(by rw [hop]; rfl), fun C K h h' w e a t d hP s f hq => ?_⟩
  have hden := f.rd s hx
  have hdi := f.rd s hi
  simp only [M.ev] at hq
  split at hq <;> try cases hq
  rename_i kd nn hri
  rw [hri] at hdi
  have hiv := hdi.val_eq
  obtain ⟨u0, hu0⟩ : ∃ v, a.eval x = v := ⟨_, rfl⟩
  rw [hu0] at hden
  split at hq <;> try cases hq
  · rename_i z es hr
    rw [hr] at hden
    split at hq <;> try cases hq
    rename_i h0
    split at hq <;> try cases hq
    rename_i c hc
    split at hq <;> try cases hq
    rename_i hsz
    have hlt : nn.toNat < es.length := (List.getElem?_eq_some_iff.1 hc).1
    cases hden with
    | slnil _ => simp at hlt
    | slw _ _ _ _ _ => simp at hlt
    | sl b off cap _ sz _ us hz hn hm hs hcl hone hdl =>
      have hszz : sz = j.size := by rw [← hs c (List.mem_of_getElem? hc)]; exact hsz
      subst hszz
      have hd1 := (hdl.drop (nn.toNat * j.size)).take j.size
      rw [flat_at hs hc] at hd1
      refine still s (v := .pointer (some ⟨b, off + nn.toNat * j.size, none⟩)) ?_ (.eref b _ _ _ (fun q v hq' => ?_) hd1)
      · have h2 : nn < (es.length : Int) := by omega
        simp [execOp, hop, hu0, hiv, Instr.indexAt, asIntOf, run_underlying hu, h0, h2, info_size hj, addr_add]
      · rw [List.getElem?_take] at hq'
        split at hq'
        · rw [List.getElem?_drop] at hq'
          have := hcl _ _ hq'
          rw [← Nat.add_assoc] at this
          exact this
        · cases hq'
  · rename_i k off m sz c hr
    rw [hr] at hden
    split at hq <;> try cases hq
    rename_i hb
    obtain ⟨rfl, h0, h1⟩ := hb
    cases hden with
    | slr _ _ _ _ b mm cap _ hl _ _ _ _ _ =>
      refine still s (v := .pointer (some ⟨b, off + nn.toNat * j.size, none⟩)) ?_ (.ptr _ _ _ _ hl)
      simp [execOp, hop, hu0, hiv, Instr.indexAt, asIntOf, run_underlying hu, h0, h1, info_size hj, addr_add]

theorem sound_ex {x : Operand} {x' : X} {i : Nat} (hop : o.op = .extract x i) (hx : X.of N x = some x') : MSound P N o (.ex x' i) := by
  refine ⟨(by rw [hop]; rfl), fun C K h h' w e a t d hP s f hq => ?_⟩
  have hden := f.rd s hx
  simp only [M.ev] at hq
  split at hq <;> try cases hq
  rename_i cs hr
  simp only [Option.map_eq_some_iff, Prod.mk.injEq] at hq
  obtain ⟨c, hc, rfl, rfl⟩ := hq
  obtain ⟨u0, hu0⟩ : ∃ v, a.eval x = v := ⟨_, rfl⟩
  rw [hr, hu0] at hden
  cases hden with
  | tup vs _ hdl =>
    obtain ⟨v, hv, hdv⟩ := hdl.get hc
    exact still s (v := v) (by simp [execOp, hop, hu0, Instr.extract, hv]) hdv

theorem sound_fd {ty : TypeId} {fs : Array Field} {fi : Nat} {fl : Field} {ag : Bool} {m : Nat} {x : Operand} {x' : X} (hop : o.op = .field ty x fi) (hx : X.of N x = some x')
    (hu : P.underlying ty = some (.struct fs)) (hf : fs[fi]? = some fl) (hs : shapeOf P fl.type = some (ag, m)) : MSound P N o (.fd ag m fl.offset x') := by
  refine ⟨(by rw [hop]; rfl), fun C K h h' w e a t d hP s f hq => ?_⟩
  have hden := f.rd s hx
  simp only [M.ev] at hq
  split at hq <;> try cases hq
  rename_i cs hr
  split at hq <;> try cases hq
  rename_i hle
  obtain ⟨u0, hu0⟩ : ∃ v, a.eval x = v := ⟨_, rfl⟩
  rw [hr, hu0] at hden
  cases hden with
  | agg vs _ hdl =>
    have hlen := hdl.length
    cases ag with
    | true =>
      refine still s (v := .agg ((vs.drop fl.offset).take m).toArray) ?_ (.agg _ _ ((hdl.drop _).take _))
      simp [execOp, hop, hu0, Instr.field, run_underlying hu, hf, asAgg, part, run_isAgg hs, run_size hs]
    | false =>
      have hm := shape_one hs
      subst hm
      obtain ⟨v, hv, hdv⟩ := getD_one hdl (show fl.offset < cs.length by omega)
      exact still s (v := v) (by simp [execOp, hop, hu0, Instr.field, run_underlying hu, hf, asAgg, part, run_isAgg hs, hv]) (by simpa using hdv)

theorem sound_ixs {ty : TypeId} {x i : Operand} {x' i' : X} (hop : o.op = .index ty x i) (hx : X.of N x = some x') (hi : X.of N i = some i') (hu : P.underlying ty = some .string) : MSound P N o (.ixs x' i') := by
  refine ⟨(by rw [hop]; rfl), fun C K h h' w e a t d hP s f hq => ?_⟩
  have h1 := f.rd s hx
  have h2 := f.rd s hi
  simp only [M.ev] at hq
  split at hq <;> try cases hq
  rename_i st kd m hr hri
  rw [hr] at h1; rw [hri] at h2
  split at hq <;> try cases hq
  rename_i h0
  simp only [Option.map_eq_some_iff, Prod.mk.injEq] at hq
  obtain ⟨c, hc, rfl, rfl⟩ := hq
  refine still s (v := .int .u8 c.toNat) ?_ (.val _ rfl)
  have hc' : st[m.toNat]? = some c := by rw [← hc]; rfl
  simp [execOp, hop, h1.val_eq, h2.val_eq, Instr.index, asIntOf, run_underlying hu, h0, hc']

theorem sound_mm {x y : Operand} {ts : Array TypeId} {mx : Bool} {x' y' : X} (hop : o.op = .call { callee := .builtin (if mx then .max else .min), args := #[x, y], argTypes := ts }) (hx : X.of N x = some x') (hy : X.of N y = some y') : MSound P N o (.mm mx x' y') := by
  refine ⟨(by rw [hop]; rfl), fun C K h h' w e a t d hP s f hq => ?_⟩
  have h1 := f.rd s hx
  have h2 := f.rd s hy
  simp only [M.ev] at hq
  split at hq <;> try cases hq
  rename_i k1 p k2 q hr hri
  rw [hr] at h1; rw [hri] at h2
  split at hq <;> try cases hq
  rename_i hk
  subst hk
  have hxv := h1.val_eq
  have hyv := h2.val_eq
  refine still s (v := .int k1 (if mx then max p q else min p q)) ?_ (.val _ rfl)
  cases mx
  · simp [execOp, hop, hxv, hyv, resolve, invoke, builtin, Builtin.min_, Builtin.min2]
    split <;> omega
  · simp [execOp, hop, hxv, hyv, resolve, invoke, builtin, Builtin.max_, Builtin.max2]
    split <;> omega

theorem mapM_rd {C : Cx} {K : Ctx} {h : Heap} {w : World} {e : List D} {a : Act} (f : Fr K N e a) (s : Sim C K h w) : ∀ (l : List Operand) (xs : List X), l.mapM (X.of N) = some xs → DenL K (l.map a.eval) (xs.map (rd C.pg.gl e))
  | [], xs, hm => by simp at hm; subst hm; exact .nil
  | o :: l, xs, hm => by
    rw [List.mapM_cons] at hm
    simp only [Option.bind_eq_bind, Option.bind_eq_some_iff, Option.pure_def, Option.some.injEq] at hm
    obtain ⟨x, hx, ys, hy, rfl⟩ := hm
    exact .cons _ _ _ _ (f.rd s hx) (mapM_rd f s l ys hy)

theorem sound_mkf {g : FuncId} {fs caps : Array Operand} {ys xs : List X} (hop : o.op = .makeFunc (.func g) fs caps) (hy : fs.toList.mapM (X.of N) = some ys) (hx : caps.toList.mapM (X.of N) = some xs) : MSound P N o (.mkf (.func g) ys xs) := by
  refine ⟨(by rw [hop]; rfl), fun C K h h' w e a t d hP s f hq => ?_⟩
  simp only [M.ev, Option.some.injEq, Prod.mk.injEq] at hq
  obtain ⟨rfl, rfl⟩ := hq
  have hv : Den K (.func (.func g) (fs.map a.eval) (caps.map a.eval)) (.fn (.func g) (ys.map (rd C.pg.gl e)) (xs.map (rd C.pg.gl e))) := by
    have := Den.fn (.func g) _ _ _ _ (mapM_rd f s _ _ hy) (mapM_rd f s _ _ hx)
    rwa [← Array.toList_map, ← Array.toList_map, Array.toArray_toList, Array.toArray_toList] at this
  exact still s (by simp [execOp, hop, Instr.makeFunc]) hv
end
end Go.Em
