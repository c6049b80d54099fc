/- A run of an operation does what its small operation says: comparisons, structs, slices, strings. -/
import Derived.Test.YtkbamkdgiglljaaGreatEmG
namespace Go.Em
open Go Go.RowKit

theorem fold_set (off : Nat) : ∀ (l : List Value) (k : Nat) (cs : Array Value), off + k + l.length ≤ cs.size →
    ((l.zipIdx k).foldl (fun (cs : Array Value) (p : Value × Nat) => cs.setIfInBounds (off + p.2) p.1) cs).toList = cs.toList.take (off + k) ++ l ++ cs.toList.drop (off + k + l.length)
  | [], k, cs, _ => by simp
  | v :: l, k, cs, h => by
    simp only [List.length_cons] at h
    rw [List.zipIdx_cons, List.foldl_cons, fold_set off l (k + 1) _ (by simp; omega)]
    simp only [Array.toList_setIfInBounds, List.length_cons]
    have h1 : off + k < cs.toList.length := by simp; omega
    rw [List.take_set, List.drop_set_of_lt (by omega), show off + (k + 1) = off + k + 1 by omega, List.take_add_one]
    rw [List.getElem?_eq_getElem h1]
    simp only [Option.toList_some]
    rw [List.set_append_right _ _ (by simp; omega)]
    simp only [List.length_take, Nat.min_eq_left (show off + k ≤ cs.toList.length by omega), Nat.sub_self, List.set_cons_zero]
    simp only [List.append_assoc, List.cons_append, List.nil_append]
    congr 3
    congr 1
    omega

theorem fold_set' (off : Nat) (v cs : Array Value) (h : off + v.size ≤ cs.size) :
    (v.zipIdx.foldl (fun (cs : Array Value) (p : Value × Nat) => cs.setIfInBounds (off + p.2) p.1) cs) = (cs.toList.take off ++ v.toList ++ cs.toList.drop (off + v.size)).toArray := by
  have := fold_set off v.toList 0 cs (by simpa using h)
  apply Array.ext'
  rw [← Array.foldl_toList, Array.toList_zipIdx]
  simpa using this

theorem run_fill {place : Nat → Option (Nat × Nat)} {K : Ctx} : ∀ (ps : List (Nat × Value)) (qs : List (Nat × Nat × D)) (cells : Array Value) (cs cs' : List D), DenL K cells.toList cs →
    ps.length = qs.length → (∀ (j : Nat) (p : Nat × Value) (q : Nat × Nat × D), ps[j]? = some p → qs[j]? = some q → place p.1 = some (q.1, q.2.1) ∧ (q.2.2.cells.all D.one = true → DenL K p.2.cells.toList q.2.2.cells)) → fillD cs qs = some cs' →
    ∃ out : Array Value, Instr.fill place cells ps = some out ∧ DenL K out.toList cs'
  | [], [], cells, cs, cs', hd, _, _, hf => by simp only [fillD, Option.some.injEq] at hf; subst hf; exact ⟨cells, rfl, hd⟩
  | (i, v) :: ps, (off, sz, d) :: qs, cells, cs, cs', hd, hl, hp, hf => by
    obtain ⟨h1, h2⟩ := hp 0 _ _ rfl rfl
    simp only [fillD] at hf
    split at hf
    · rename_i hc
      have h2 := h2 hc.2.2
      have hlen : cells.toList.length = cs.length := hd.length
      have hvs : v.cells.size = sz := by have := h2.length; simp only [Array.length_toList] at this; rw [this]; exact hc.1
      have hle : off + v.cells.size ≤ cells.size := by rw [hvs]; simp only [Array.length_toList] at hlen; omega
      obtain ⟨out, ho, hdo⟩ := run_fill (place := place) (K := K) ps qs (cells.toList.take off ++ v.cells.toList ++ cells.toList.drop (off + v.cells.size)).toArray (cs.take off ++ d.cells ++ cs.drop (off + sz)) cs'
        (by rw [hvs]; exact ((hd.take off).append h2).append (hd.drop (off + sz))) (by simpa using hl) (fun j p q hp' hq' => hp (j + 1) p q (by simpa using hp') (by simpa using hq')) hf
      refine ⟨out, ?_, hdo⟩
      simp only [Instr.fill, h1]
      rw [if_neg (by rw [hvs]; simp; omega)]
      have := fold_set' off v.cells cells hle
      exact (congrArg (fun x => Instr.fill place x ps) this).trans ho
    · cases hf

theorem flat_len {sz : Nat} : ∀ {es : List D}, (∀ e, e ∈ es → e.cells.length = sz) → (es.flatMap D.cells).length = es.length * sz
  | [], _ => by simp
  | d :: es, h => by
    rw [List.flatMap_cons, List.length_append, h d (by simp), flat_len (es := es) (fun e he => h e (by simp [he])), List.length_cons, Nat.add_mul, Nat.one_mul, Nat.add_comm]

theorem flat_part {sz : Nat} : ∀ {es : List D} (_ : ∀ e, e ∈ es → e.cells.length = sz) (l m : Nat), l + m ≤ es.length →
    ((es.drop l).take m).flatMap D.cells = ((es.flatMap D.cells).drop (l * sz)).take (m * sz)
  | [], _, l, m, h => by simp
  | d :: es, hs, 0, 0, h => by simp
  | d :: es, hs, 0, m + 1, h => by
    have h1 := hs d (by simp)
    have ih := flat_part (es := es) (fun e he => hs e (by simp [he])) 0 m (by simp at h ⊢; omega)
    simp only [List.drop_zero, Nat.zero_mul] at ih ⊢
    rw [List.take_succ_cons, List.flatMap_cons, List.flatMap_cons, ih, Nat.add_mul, Nat.one_mul, Nat.add_comm (m * sz), ← h1, List.take_length_add_append]
  | d :: es, hs, l + 1, m, h => by
    have h1 := hs d (by simp)
    have ih := flat_part (es := es) (fun e he => hs e (by simp [he])) l m (by simp at h; omega)
    rw [List.drop_succ_cons, ih, List.flatMap_cons, Nat.add_mul, Nat.one_mul, Nat.add_comm (l * sz), ← List.drop_drop, List.drop_left' h1]

def placesOf (P : Program) : List Field → Option (List (Nat × Nat))
  | [] => some []
  | f :: l => (P.info? f.type).bind fun i => (placesOf P l).bind fun ps => some ((f.offset, i.size) :: ps)
theorem run_places {P : Program} {w : World} : ∀ (l : List Field) (ps : List (Nat × Nat)), placesOf P l = some ps → (l.mapM fun f => do pure (f.offset, ← Go.sizeOf f.type) : Sem (List (Nat × Nat))).run P w = .ok ps w
  | [], ps, h => by simp only [placesOf, Option.some.injEq] at h; subst h; rfl
  | f :: l, ps, h => by
    simp only [placesOf, Option.bind_eq_some_iff, Option.some.injEq] at h
    obtain ⟨i, hi, ps', h2, rfl⟩ := h
    have ih := run_places (w := w) l ps' h2
    rw [List.mapM_cons, Sem.run_bind]
    simp only [Sem.run_bind, info_size hi, Result.andThen_ok, Sem.run_pure]
    rw [ih]; rfl


section
variable {a : Act} {w : World}
theorem run_bounds {P : Program} {lo hi : Option Operand} (sl : Bool) (n cap l h : Nat) (hL : (lo = none ∧ (l : Int) = 0) ∨ ∃ o k, lo = some o ∧ a.eval o = .int k l) (hH : (hi = none ∧ (h : Int) = n) ∨ ∃ o k, hi = some o ∧ a.eval o = .int k h)
    (hlh : l ≤ h) (hc : h ≤ cap) : (Instr.sliceBounds sl n cap (lo.map a.eval) (hi.map a.eval) none).run P w = .ok (l, h, cap) w := by
  have h1 : ¬ cap < h := by omega
  have h2 : ¬ h < l := by omega
  rcases hH with ⟨rfl, hv⟩ | ⟨o', kd, rfl, hv⟩ <;> rcases hL with ⟨rfl, hv'⟩ | ⟨o'', kd', rfl, hv'⟩
  · have e1 : n = h := by omega
    have e2 : l = 0 := by omega
    simp [Instr.sliceBounds, e1, e2]
  · have e1 : n = h := by omega
    simp [Instr.sliceBounds, Instr.sliceBound, asIntOf, hv', e1, h2]
  · have e2 : l = 0 := by omega
    simp [Instr.sliceBounds, Instr.sliceBound, asIntOf, hv, e2, h1]
  · simp [Instr.sliceBounds, Instr.sliceBound, asIntOf, hv, hv', hc, hlh]

end

section
variable {P : Program} {N : Nat} {o : Oper}

theorem sound_bld {ty : TypeId} {i : TypeInfo} {z : Value} {fs : Array Field} {places : List (Nat × Nat)} {parts : Array (Nat × Operand)} {ps : List (Nat × Nat × X)} (hop : o.op = .build ty parts)
    (hi : P.info? ty = some i) (hz : i.zero = some z) (h1 : z.cells.toList.all (·.oneCell') = true) (hu : P.underlying ty = some (.struct fs)) (hpl : placesOf P fs.toList = some places)
    (hps : parts.toList.mapM (fun p => (places[p.1]?).bind fun q => (X.of N p.2).map fun x => (q.1, q.2, x)) = some ps) : MSound P N o (.bld z.cells.toList ps) := by
  refine ⟨(by rw [hop]; rfl), fun C K h h' w e a t d hP s f hq => ?_⟩
  simp only [M.ev, Option.map_eq_some_iff, Prod.mk.injEq] at hq
  obtain ⟨cs, hf, rfl, rfl⟩ := hq
  have key : ∀ (l : List (Nat × Operand)) (ps : List (Nat × Nat × X)), l.mapM (fun p => (places[p.1]?).bind fun q => (X.of N p.2).map fun x => (q.1, q.2, x)) = some ps →
      (l.map fun p => (p.1, a.eval p.2)).length = (ps.map fun p => (p.1, p.2.1, rd C.pg.gl e p.2.2)).length ∧
      ∀ (j : Nat) (p : Nat × Value) (q : Nat × Nat × D), (l.map fun p => (p.1, a.eval p.2))[j]? = some p → (ps.map fun p => (p.1, p.2.1, rd C.pg.gl e p.2.2))[j]? = some q → places[p.1]? = some (q.1, q.2.1) ∧ (q.2.2.cells.all D.one = true → DenL K p.2.cells.toList q.2.2.cells) := by
    intro l
    induction l with
    | nil => intro ps hm; simp at hm; subst hm; exact ⟨rfl, fun j p q hp => by simp at hp⟩
    | cons x l ih =>
      intro ps hm
      rw [List.mapM_cons] at hm
      simp only [Option.bind_eq_bind, Option.bind_eq_some_iff, Option.pure_def, Option.some.injEq, Option.map_eq_some_iff] at hm
      obtain ⟨p0, ⟨q0, hq0, x0, hx0, rfl⟩, ps', hps', rfl⟩ := hm
      obtain ⟨hl, hr⟩ := ih ps' hps'
      refine ⟨by simp only [List.map_cons, List.length_cons, hl], fun j p q hp hq => ?_⟩
      cases j with
      | zero =>
        simp at hp hq; subst hp hq
        exact ⟨hq0, fun hone => ((f.rd s hx0).cells hone).1⟩
      | succ j => exact hr j p q (by simpa using hp) (by simpa using hq)
  obtain ⟨hl, hk⟩ := key _ _ hps
  obtain ⟨out, hfo, hdo⟩ := run_fill (place := fun i => places[i]?) (K := K) _ _ z.cells (z.cells.toList.map .val) cs (vals_den h1) hl hk hf
  refine still s (v := .agg out) ?_ (by have := Den.agg (S := K) out.toList cs hdo; simpa using this)
  have hpl' : (fs.mapM fun f => do pure (f.offset, ← sizeOf f.type) : Sem (Array (Nat × Nat))).run P w = .ok places.toArray w := by
    rw [Array.mapM_eq_mapM_toList]
    simp only [Sem.run_map]
    rw [run_places _ _ hpl]; rfl
  simp only [execOp, hop, Instr.build, Sem.run_bind, zeroValue, typeInfo, run_program, Result.andThen_ok, hi, hz, Sem.run_pure, run_underlying hu] at hpl' ⊢
  rw [hpl']
  simp only [Result.andThen_ok]
  simp [hfo]

theorem sound_blda {ty et : TypeId} {n : Nat} {i j : TypeInfo} {z : Value} {parts : Array (Nat × Operand)} {ps : List (Nat × Nat × X)} (hop : o.op = .build ty parts)
    (hi : P.info? ty = some i) (hz : i.zero = some z) (h1 : z.cells.toList.all (·.oneCell') = true) (hu : P.underlying ty = some (.array n et)) (hj : P.info? et = some j)
    (hps : parts.toList.mapM (fun p => (X.of N p.2).map fun x => (p.1 * j.size, j.size, x)) = some ps) : MSound P N o (.bld z.cells.toList ps) := by
  refine ⟨(by rw [hop]; rfl), fun C K h h' w e a t d hP s f hq => ?_⟩
  simp only [M.ev, Option.map_eq_some_iff, Prod.mk.injEq] at hq
  obtain ⟨cs, hf, rfl, rfl⟩ := hq
  have key : ∀ (l : List (Nat × Operand)) (ps : List (Nat × Nat × X)), l.mapM (fun p => (X.of N p.2).map fun x => (p.1 * j.size, j.size, x)) = some ps →
      (l.map fun p => (p.1, a.eval p.2)).length = (ps.map fun p => (p.1, p.2.1, rd C.pg.gl e p.2.2)).length ∧
      ∀ (k : Nat) (p : Nat × Value) (q : Nat × Nat × D), (l.map fun p => (p.1, a.eval p.2))[k]? = some p → (ps.map fun p => (p.1, p.2.1, rd C.pg.gl e p.2.2))[k]? = some q → (fun i => some (i * j.size, j.size)) p.1 = some (q.1, q.2.1) ∧ (q.2.2.cells.all D.one = true → DenL K p.2.cells.toList q.2.2.cells) := by
    intro l
    induction l with
    | nil => intro ps hm; simp at hm; subst hm; exact ⟨rfl, fun j p q hp => by simp at hp⟩
    | cons x l ih =>
      intro ps hm
      rw [List.mapM_cons] at hm
      simp only [Option.bind_eq_bind, Option.bind_eq_some_iff, Option.pure_def, Option.some.injEq, Option.map_eq_some_iff] at hm
      obtain ⟨p0, ⟨x0, hx0, rfl⟩, ps', hps', rfl⟩ := hm
      obtain ⟨hl, hr⟩ := ih ps' hps'
      refine ⟨by simp only [List.map_cons, List.length_cons, hl], fun k p q hp hq => ?_⟩
      cases k with
      | zero =>
        simp at hp hq; subst hp hq
        exact ⟨rfl, fun hone => ((f.rd s hx0).cells hone).1⟩
      | succ k => exact hr k p q (by simpa using hp) (by simpa using hq)
  obtain ⟨hl, hk⟩ := key _ _ hps
  obtain ⟨out, hfo, hdo⟩ := run_fill (place := fun i => some (i * j.size, j.size)) (K := K) _ _ z.cells (z.cells.toList.map .val) cs (vals_den h1) hl hk hf
  refine still s (v := .agg out) ?_ (by have := Den.agg (S := K) out.toList cs hdo; simpa using this)
  simp only [execOp, hop, Instr.build, Sem.run_bind, zeroValue, typeInfo, run_program, Result.andThen_ok, hi, hz, Sem.run_pure, run_underlying hu, sizeOf, hj]
  simp [hfo]

theorem den_len {K : Ctx} {v : Value} {z : Bool} {es : List D} (h : Den K v (.sl z es)) : ∃ b c, v = .slice b es.length c := by
  cases h with
  | slnil _ => exact ⟨_, _, rfl⟩
  | slw _ _ _ _ _ => exact ⟨_, _, rfl⟩
  | sl b off cap _ _ _ us hz hn hm hs hcl hone hdl => exact ⟨_, _, rfl⟩

theorem sound_len {x : Operand} {ty et : TypeId} {x' : X} (hop : o.op = .call { callee := .builtin .len, args := #[x], argTypes := #[ty] }) (hx : X.of N x = some x') (hu : P.underlying ty = some (.slice et)) : MSound P N o (.len x') := by
  refine ⟨(by rw [hop]; rfl), fun C K h h' w e a t d hP s f hq => ?_⟩
  have hden := (f.rd s hx).wk
  simp only [M.ev] at hq
  split at hq <;> try cases hq
  · rename_i z es hr
    rw [hr] at hden
    obtain ⟨b, c, hv⟩ := den_len hden
    exact still s (v := .int .i64 es.length) (by simp [execOp, hop, hv, resolve, invoke, builtin, Builtin.len_, run_underlying hu, goInt]) (.val _ rfl)
  · rename_i k off n sz c hr
    rw [hr] at hden
    obtain ⟨v, hv⟩ : ∃ v, a.eval x = v := ⟨_, rfl⟩
    rw [hv] at hden
    cases hden with
    | slr _ _ _ _ b mm cap _ hl _ _ _ _ _ =>
      exact still s (v := .int .i64 n) (by simp [execOp, hop, hv, resolve, invoke, builtin, Builtin.len_, run_underlying hu, goInt]) (.val _ rfl)

theorem sound_lens {x : Operand} {ty : TypeId} {x' : X} (hop : o.op = .call { callee := .builtin .len, args := #[x], argTypes := #[ty] }) (hx : X.of N x = some x') (hu : P.underlying ty = some .string) : MSound P N o (.lens x') := by
  refine ⟨(by rw [hop]; rfl), fun C K h h' w e a t d hP s f hq => ?_⟩
  have hden := f.rd s hx
  simp only [M.ev] at hq
  split at hq <;> try cases hq
  rename_i st hr
  rw [hr] at hden
  have hv := hden.val_eq
  exact still s (v := .int .i64 st.size) (by simp [execOp, hop, hv, resolve, invoke, builtin, Builtin.len_, run_underlying hu, goInt]) (.val _ rfl)

theorem sound_cap {x : Operand} {ty et : TypeId} {x' : X} (hop : o.op = .call { callee := .builtin .cap, args := #[x], argTypes := #[ty] }) (hx : X.of N x = some x') (hu : P.underlying ty = some (.slice et)) : MSound P N o (.cap x') := by
  refine ⟨(by rw [hop]; rfl), fun C K h h' w e a t d hP s f hq => ?_⟩
  have hden := f.rd s hx
  obtain ⟨v, hv⟩ : ∃ v, a.eval x = v := ⟨_, rfl⟩
  rw [hv] at hden
  simp only [M.ev] at hq
  split at hq <;> try cases hq
  · rename_i hr
    rw [hr] at hden
    have hv' := hden.val_eq
    subst hv'
    exact still s (v := .int .i64 0) (by simp [execOp, hop, hv, resolve, invoke, builtin, Builtin.cap_, run_underlying hu, goInt]) (.val _ rfl)
  · rename_i es hr
    rw [hr] at hden
    cases hden with
    | slnil _ => exact still s (v := .int .i64 0) (by simp [execOp, hop, hv, resolve, invoke, builtin, Builtin.cap_, run_underlying hu, goInt]) (.val _ rfl)
    | slw a0 cap _ hz _ =>
      have := hz rfl
      subst this
      exact still s (v := .int .i64 0) (by simp [execOp, hop, hv, resolve, invoke, builtin, Builtin.cap_, run_underlying hu, goInt]) (.val _ rfl)
    | sl b off cap _ _ _ us hz hn hm hs hcl hone hdl =>
      have := hz rfl
      subst this
      exact still s (v := .int .i64 es.length) (by simp [execOp, hop, hv, resolve, invoke, builtin, Builtin.cap_, run_underlying hu, goInt]) (.val _ rfl)
  · rename_i k off n sz c hr
    rw [hr] at hden
    cases hden with
    | slr _ _ _ _ b mm cap _ hl _ _ _ _ h5 =>
      have := h5 c rfl
      subst this
      exact still s (v := .int .i64 cap) (by simp [execOp, hop, hv, resolve, invoke, builtin, Builtin.cap_, run_underlying hu, goInt]) (.val _ rfl)

theorem zerosD_den {K : Ctx} {z : List Value} {sz n : Nat} (h1 : z.all (·.oneCell') = true) (hz : 0 < sz → z.length = sz) :
    DenL K ((List.range (n * sz)).map fun i => z.getD (i % sz) undef) (zerosD z sz n) ∧ ((List.range (n * sz)).map fun i => z.getD (i % sz) undef).all (·.oneCell') = true := by
  have : zerosD z sz n = ((List.range (n * sz)).map fun i => z.getD (i % sz) undef).map .val := by simp [zerosD]
  have h2 : ((List.range (n * sz)).map fun i => z.getD (i % sz) undef).all (·.oneCell') = true := by
    refine List.all_eq_true.2 fun v hv => ?_
    obtain ⟨i, hi, rfl⟩ := List.mem_map.1 hv
    have hi := List.mem_range.1 hi
    have hsz : 0 < sz := Nat.pos_of_ne_zero fun e => by subst e; simp at hi
    have hlt : i % sz < z.length := by rw [hz hsz]; exact Nat.mod_lt _ hsz
    rw [List.getD_eq_getElem?_getD, List.getElem?_eq_getElem hlt]
    exact List.all_eq_true.1 h1 _ (List.getElem_mem hlt)
  rw [this]
  exact ⟨vals_den h2, h2⟩
theorem zeros_arr {z : Value} {sz n : Nat} (hz : z.cells.size = sz) (hs : 0 < sz) : ((Array.range (n * sz)).map fun x => z.cells[x % z.cells.size]!).toList = (List.range (n * sz)).map fun i => z.cells.toList.getD (i % sz) undef := by
  rw [Array.toList_map, Array.toList_range]
  refine List.map_congr_left fun i _ => ?_
  rw [hz]
  have hlt : i % sz < z.cells.size := by rw [hz]; exact Nat.mod_lt _ hs
  rw [getElem!_pos z.cells (i % sz) hlt]
  rw [List.getD_eq_getElem?_getD, List.getElem?_eq_getElem (by simpa using hlt)]
  simp

theorem map_range0 {α : Type} (f : Nat → α) (n : Nat) : (Array.range (0 * n)).map f = #[] := by
  apply Array.ext'; simp [Array.toList_range]

theorem sound_bs {ty et : TypeId} {len : Nat} {j : TypeInfo} {z : Value} {parts : Array (Nat × Operand)} {ps : List (Nat × X)} (hop : o.op = .buildSlice ty len parts)
    (hps : parts.toList.mapM (fun p => (X.of N p.2).map fun x => (p.1, x)) = some ps) (hsm : len * j.size ≤ 16777216) (h0 : 0 < j.size)
    (hu : P.underlying ty = some (.slice et)) (hj : P.info? et = some j) (hz : j.zero = some z) (hzs : z.cells.size = j.size) (h1 : z.cells.toList.all (·.oneCell') = true) : MSound P N o (.bs et j.size len z.cells.toList ps) := by
  refine ⟨(by rw [hop]; rfl), fun C K h h' w e a t d hP s f hq => ?_⟩
  simp only [M.ev] at hq
  split at hq <;> try cases hq
  rename_i cs hf
  simp only [Option.map_eq_some_iff, Prod.mk.injEq] at hq
  obtain ⟨h2, ha, rfl, rfl⟩ := hq
  have key : ∀ (l : List (Nat × Operand)) (ps : List (Nat × X)), l.mapM (fun p => (X.of N p.2).map fun x => (p.1, x)) = some ps →
      (l.map fun p => (p.1, a.eval p.2)).length = (ps.map fun p => (p.1 * j.size, j.size, rd C.pg.gl e p.2)).length ∧
      ∀ (i : Nat) (p : Nat × Value) (q : Nat × Nat × D), (l.map fun p => (p.1, a.eval p.2))[i]? = some p → (ps.map fun p => (p.1 * j.size, j.size, rd C.pg.gl e p.2))[i]? = some q → (some (p.1 * j.size, j.size) : Option (Nat × Nat)) = some (q.1, q.2.1) ∧ (q.2.2.cells.all D.one = true → DenL K p.2.cells.toList q.2.2.cells) := by
    intro l
    induction l with
    | nil => intro ps hm; simp at hm; subst hm; exact ⟨rfl, fun j p q hp => by simp at hp⟩
    | cons x l ih =>
      intro ps hm
      rw [List.mapM_cons] at hm
      simp only [Option.bind_eq_bind, Option.bind_eq_some_iff, Option.pure_def, Option.some.injEq, Option.map_eq_some_iff] at hm
      obtain ⟨p0, ⟨x0, hx0, rfl⟩, ps', hps', rfl⟩ := hm
      obtain ⟨hl, hr⟩ := ih ps' hps'
      refine ⟨by simp only [List.map_cons, List.length_cons, hl], fun j p q hp hq => ?_⟩
      cases j with
      | zero =>
        simp at hp hq; subst hp hq
        exact ⟨rfl, fun hone => ((f.rd s hx0).cells hone).1⟩
      | succ j => exact hr j p q (by simpa using hp) (by simpa using hq)
  obtain ⟨hl, hk⟩ := key _ _ hps
  obtain ⟨hzd, hzo⟩ := zerosD_den (K := K) (n := len) h1 (fun _ => by simpa using hzs)
  rw [← zeros_arr hzs h0] at hzd hzo
  obtain ⟨out, hfo, hdo⟩ := run_fill (place := fun i => some (i * j.size, j.size)) (K := K) _ _ ((Array.range (len * j.size)).map fun x => z.cells[x % z.cells.size]!) (zerosD z.cells.toList j.size len) cs hzd hl hk hf
  have hfillone : ∀ (l : List (Nat × Nat × D)) (cs cs' : List D), cs.all D.one = true → fillD cs l = some cs' → cs'.all D.one = true ∧ cs'.length = cs.length := by
    intro l
    induction l with
    | nil => intro cs cs' h1 h2; simp only [fillD, Option.some.injEq] at h2; subst h2; exact ⟨h1, rfl⟩
    | cons p l ih =>
      intro cs cs' h1 h2
      simp only [fillD] at h2
      split at h2 <;> try cases h2
      rename_i hc
      obtain ⟨i1, i2⟩ := ih _ _ (by
        have hm := List.all_eq_true.1 h1
        rw [List.all_append, List.all_append, hc.2.2, Bool.and_true, Bool.and_eq_true]
        exact ⟨List.all_eq_true.2 fun v hv => hm v (List.mem_of_mem_take hv), List.all_eq_true.2 fun v hv => hm v (List.mem_of_mem_drop hv)⟩) h2
      refine ⟨i1, ?_⟩
      rw [i2]; simp only [List.length_append, List.length_take, List.length_drop]; omega
  obtain ⟨hone, hclen⟩ := hfillone _ _ _ (by simp [zerosD, D.one]) hf
  have hcl : cs.length = len * j.size := by rw [hclen]; simp [zerosD]
  have hol := hdo.length
  have hle := Ctx.at_le w.heap.size out.size (s.fresh t (alloc_some ha).1)
  obtain ⟨_, s'⟩ := s.new ha out.size (w' := w.alloc (.cells out et)) ((Below.refl _ w).alloc (Nat.le_refl _) _) (World.alloc_heap_new w _)
    ⟨out.toList, [], by simp, hdo.mono hle, hdo.one hone, by simp⟩
  refine ⟨.slice (some ⟨w.heap.size, 0, none⟩) len len, _, _, .value _ _ ?_, hle, s', .slr _ _ _ _ _ _ _ _ (K.at_same _ _ _) (Nat.le_refl _) ?_ ?_ (fun x => by cases x) (fun c x => by cases x; rfl)⟩
  · simp only [execOp, hop, Instr.buildSlice, Sem.run_bind, run_underlying hu, Result.andThen_ok, info_size hj]
    rw [if_neg (by omega)]
    by_cases hl0 : len = 0
    · have e1 : ((Array.range (len * j.size)).map fun x => z.cells[x % z.cells.size]!) = #[] := by
        subst hl0; exact map_range0 _ _
      have e2 : ∀ (f : Nat → Value), (Array.range (len * j.size)).map f = #[] := fun f => by subst hl0; exact map_range0 _ _
      rw [e1] at hfo
      have hl0' : len * j.size = 0 := by rw [hl0, Nat.zero_mul]
      rw [if_pos hl0']
      have hfo' : Instr.fill (fun i => some (i * j.size, j.size)) #[] (parts.map fun p => (p.1, a.eval p.2)).toList = some out := by rw [Array.toList_map]; exact hfo
      simp only [Sem.run_pure, e2]
      rw [hfo']
      simp [newRow, newObj, Sem.run]
    · have hne : ¬ (len * j.size = 0) := by have := Nat.mul_pos (Nat.pos_of_ne_zero hl0) h0; omega
      simp [hne, zeroValue, typeInfo, hj, hz] at hfo ⊢
      rw [hfo]
      simp [newRow, newObj, Sem.run]
  · have := Nat.le_mul_of_pos_right len h0
    simp only [maxLen]; omega
  · simp only [Array.length_toList] at hol
    omega

theorem sound_mks {ty et : TypeId} {j : TypeInfo} {z : Value} {l c : Operand} {l' c' : X} (hop : o.op = .makeSlice ty l c) (hl : X.of N l = some l') (hc : X.of N c = some c')
    (hu : P.underlying ty = some (.slice et)) (hj : P.info? et = some j) (hz : j.zero = some z) (hb : 0 < j.bytes) (h0 : 0 < j.size) (hzs : z.cells.size = j.size) (h1 : z.cells.toList.all (·.oneCell') = true) : MSound P N o (.mks et j.size j.bytes z.cells.toList l' c') := by
  refine ⟨(by rw [hop]; rfl), fun C K h h' w e a t d hP s f hq => ?_⟩
  have hdl := f.rd s hl
  have hdc := f.rd s hc
  simp only [M.ev] at hq
  split at hq <;> try cases hq
  rename_i k1 ll k2 cc hrl hrc
  rw [hrl] at hdl; rw [hrc] at hdc
  have hlv := hdl.val_eq
  have hcv := hdc.val_eq
  split at hq <;> try cases hq
  rename_i hcond
  obtain ⟨hl0, hlc, hroom⟩ := hcond
  simp only [Option.map_eq_some_iff, Prod.mk.injEq] at hq
  obtain ⟨h2, ha, rfl, rfl⟩ := hq
  obtain ⟨m, rfl⟩ := Int.eq_ofNat_of_zero_le hl0
  obtain ⟨n, rfl⟩ := Int.eq_ofNat_of_zero_le (Int.le_trans hl0 hlc)
  simp only [room] at hroom
  have hmb : n * j.bytes ≤ 140737488355328 := by
    have : (j.bytes : Int) * (n : Int) = ((n * j.bytes : Nat) : Int) := by rw [Int.natCast_mul, Int.mul_comm]
    rw [this] at hroom; omega
  have hnle : n ≤ 140737488355328 := Nat.le_trans (Nat.le_mul_of_pos_right n hb) hmb
  have hmn : m ≤ n := by omega
  let cur : Array Value := (Array.range (n * j.size)).map fun i => z.cells[i % z.cells.size]!
  have hcur : cur.toList = (List.range (n * j.size)).map fun i => z.cells.toList.getD (i % j.size) undef := zeros_arr hzs h0
  have hle := Ctx.at_le w.heap.size (n * j.size) (s.fresh t (alloc_some ha).1)
  obtain ⟨hzd, hzo⟩ := zerosD_den (K := K.at t w.heap.size (n * j.size)) (n := m) h1 (fun _ => by simpa using hzs)
  have hsplit : List.range (n * j.size) = List.range (m * j.size) ++ (List.range' (m * j.size) (n * j.size - m * j.size)) := by
    have : m * j.size ≤ n * j.size := Nat.mul_le_mul_right _ hmn
    rw [List.range_eq_range', List.range_eq_range']
    have e := List.range'_append_1 (s := 0) (m := m * j.size) (n := n * j.size - m * j.size)
    rw [Nat.zero_add] at e
    rw [e]; congr 1; omega
  obtain ⟨_, s'⟩ := s.new ha (n * j.size) (w' := w.alloc (.cells cur et)) ((Below.refl _ w).alloc (Nat.le_refl _) _) (World.alloc_heap_new w _)
    ⟨(List.range (m * j.size)).map fun i => z.cells.toList.getD (i % j.size) undef, (List.range' (m * j.size) (n * j.size - m * j.size)).map fun i => z.cells.toList.getD (i % j.size) undef, by
      congr 1; apply Array.ext'; rw [hcur, hsplit, List.map_append], hzd, hzo, by
      rw [← List.map_append, ← hsplit]; simp⟩
  refine ⟨.slice (some ⟨w.heap.size, 0, none⟩) m n, _, _, .value _ _ ?_, hle, s', ?_⟩
  · have hw : IntKind.i64.wrap (n : Int) = (n : Int) := IntWalk.i64_in _ (by omega)
    have hw0 : IntKind.i64.wrap (m : Int) = (m : Int) := IntWalk.i64_in _ (by omega)
    have hneg : ¬ ((n : Int) < 0) := by omega
    have hneg2 : ¬ ((m : Int) < 0) := by omega
    have hgt : ¬ ((m : Int) > (n : Int)) := by omega
    have hbyt' : ¬ (281474976710656 < (j.bytes : Int) * (n : Int)) := by omega
    simp [execOp, hop, hlv, hcv, Instr.makeSlice, run_underlying hu, asInt, asIntOf, typeInfo, hj, hw, hw0, sizeOf, newRow, newObj, zeroValue, hz, hbyt', hneg, hneg2, hgt, Sem.run]
    split
    · rename_i hn0
      have hr0 : Array.range 0 = #[] := rfl
      simp [cur, hn0, hr0]
    · rfl
  · refine .slr _ _ _ _ _ _ _ _ (K.at_same _ _ _) hmn (by simp only [maxLen]; omega) (by omega) (fun x => by cases x) (fun c x => by cases x; simp)

def optX (N : Nat) : Option Operand → Option (Option X)
  | none => some none
  | some o => (X.of N o).map some
theorem optI_eval {C : Cx} {K : Ctx} {h : Heap} {w : World} {e : List D} {a : Act} (f : Fr K N e a) (s : Sim C K h w) {x : Option Operand} {x' : Option X} {dflt : Int} {v : Int} (hx : optX N x = some x') (hv : optI C.pg.gl e x' dflt = some v) :
    (x = none ∧ v = dflt) ∨ ∃ o k, x = some o ∧ a.eval o = .int k v := by
  cases x with
  | none =>
    simp only [optX, Option.some.injEq] at hx
    subst hx
    simp only [optI, Option.some.injEq] at hv
    exact .inl ⟨rfl, hv.symm⟩
  | some o =>
    simp only [optX, Option.map_eq_some_iff] at hx
    obtain ⟨y, hy, rfl⟩ := hx
    simp only [optI] at hv
    split at hv
    · rename_i k n hr
      cases hv
      have := f.rd s hy
      rw [hr] at this
      exact .inr ⟨o, k, rfl, this.val_eq⟩
    · cases hv

theorem sound_sls {ty : TypeId} {x : Operand} {lo hi : Option Operand} {x' : X} {lo' hi' : Option X} (hop : o.op = .slice ty x lo hi none) (hx : X.of N x = some x')
    (hlo : optX N lo = some lo') (hhi : optX N hi = some hi') (hu : P.underlying ty = some .string) : MSound P N o (.sls x' lo' hi') := by
  refine ⟨(by rw [hop]; rfl), fun C K h h' w e a t d hP s f hq => ?_⟩
  have hden := f.rd s hx
  simp only [M.ev] at hq
  split at hq <;> try cases hq
  rename_i st hr
  rw [hr] at hden
  have hv := hden.val_eq
  split at hq <;> try cases hq
  rename_i l hh hl hhv
  split at hq <;> try cases hq
  rename_i hc
  obtain ⟨h0, h1, h2⟩ := hc
  obtain ⟨l', rfl⟩ := Int.eq_ofNat_of_zero_le h0
  obtain ⟨h', rfl⟩ := Int.eq_ofNat_of_zero_le (Int.le_trans h0 h1)
  have hbd := run_bounds (a := a) (P := P) (w := w) false st.size st.size l' h' (optI_eval f s hlo hl) (optI_eval f s hhi hhv) (by omega) (by omega)
  refine still s (v := .string (st.extract l' h')) ?_ (.val _ rfl)
  simp [execOp, hop, hv, Instr.sliceAt, Instr.slice, run_underlying hu, hbd]
end
end Go.Em
