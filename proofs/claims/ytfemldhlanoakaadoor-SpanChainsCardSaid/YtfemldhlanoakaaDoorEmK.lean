/- A run of an operation does what its small operation says: comparisons. -/
import Derived.Test.YtfemldhlanoakaaDoorEmJ
import Derived.ChangeKeysEq
namespace Go.Em
open Go Go.RowKit

/-- The kind of a cell. -/
def ckOf : Option TypeDesc → Option CK
  | some (.int _) => some .int
  | some .string => some .str
  | some .bool => some .bool
  | _ => none
/-- The kinds of a struct's cells, where each field is one cell, in its place. -/
def eqTy (P : Program) : Nat → List Field → Option (List CK)
  | _, [] => some []
  | n, f :: l => if f.name ≠ "_" ∧ f.offset = n then (ckOf (P.underlying f.type)).bind fun k => (eqTy P (n + 1) l).bind fun ks => some (k :: ks) else none

theorem run_eqFields {P : Program} {K : Ctx} {w : World} (d : Nat) (xs ys : Array Value) : ∀ (fs : List Field) (n : Nat) (ks : List CK) (ds es : List D) (b : Bool), eqTy P n fs = some ks → DenL K (xs.toList.drop n) ds → DenL K (ys.toList.drop n) es → cellsEq ks ds es = some b →
    (Op.eqFields (d + 1) xs ys fs).run P w = .ok b w
  | [], n, ks, ds, es, b, hk, _, _, h => by
    simp only [eqTy, Option.some.injEq] at hk
    subst hk
    cases ds <;> cases es <;> simp [cellsEq] at h
    subst h; rfl
  | f :: fs, n, ks, ds, es, b, hk, hd, he, h => by
    simp only [eqTy] at hk
    split at hk <;> try (cases hk; done)
    rename_i hc
    obtain ⟨hn, ho⟩ := hc
    simp only [Option.bind_eq_some_iff, Option.some.injEq] at hk
    obtain ⟨k, hk1, ks', hk2, rfl⟩ := hk
    cases ds with
    | nil => simp [cellsEq] at h
    | cons x ds =>
      cases es with
      | nil => simp [cellsEq] at h
      | cons y es =>
        simp only [cellsEq] at h
        split at h <;> try (cases h; done)
        rename_i b1 b2 h1 h2
        cases h
        obtain ⟨u, hu, hud⟩ := hd.get (i := 0) rfl
        obtain ⟨v, hv, hvd⟩ := he.get (i := 0) rfl
        rw [List.getElem?_drop] at hu hv
        have hu' : xs[n]? = some u := by simpa using hu
        have hv' : ys[n]? = some v := by simpa using hv
        have hd' : DenL K (xs.toList.drop (n + 1)) ds := by have := hd.drop 1; simpa [List.drop_drop] using this
        have he' : DenL K (ys.toList.drop (n + 1)) es := by have := he.drop 1; simpa [List.drop_drop] using this
        have ih := run_eqFields (w := w) d xs ys fs (n + 1) ks' ds es b2 hk2 hd' he' h2
        have part1 : (part f.type xs n).run P w = .ok u w ∧ (part f.type ys n).run P w = .ok v w ∧ (Op.equalIn (d + 1) f.type u v).run P w = .ok b1 w := by
          unfold ckOf at hk1
          split at hk1 <;> cases hk1
          · rename_i kk hty
            unfold cellEq at h1
            split at h1 <;> try (cases h1; done)
            · rename_i hkk; split at h1 <;> cases h1
              rename_i heq; subst heq
              have e1 := hud.val_eq; have e2 := hvd.val_eq
              subst e1 e2
              exact ⟨by simp [part, isAgg, run_underlying hty, hu'], by simp [part, isAgg, run_underlying hty, hv'], run_equalIn_int w d f.type _ kk _ _ hty⟩
            all_goals simp_all
          · rename_i hty
            unfold cellEq at h1
            split at h1 <;> try (cases h1; done)
            all_goals try simp_all
            have e1 := hud.val_eq; have e2 := hvd.val_eq
            subst e1 e2
            exact ⟨by simp [part, isAgg, run_underlying hty, hu'], by simp [part, isAgg, run_underlying hty, hv'], by rw [run_equalIn_string w d f.type _ _ hty, ← beq_toListBytes, h1]⟩
          · rename_i hty
            unfold cellEq at h1
            split at h1 <;> try (cases h1; done)
            all_goals try simp_all
            have e1 := hud.val_eq; have e2 := hvd.val_eq
            subst e1 e2
            exact ⟨by simp [part, isAgg, run_underlying hty, hu'], by simp [part, isAgg, run_underlying hty, hv'], by rw [run_equalIn_bool' w d f.type _ _ hty, h1]⟩
        simp only [Op.eqFields, hn, ne_eq, not_false_eq_true, if_true, ho, Sem.run_bind, part1.1, part1.2.1, part1.2.2, Result.andThen_ok]
        cases b1
        · simp
        · simpa using ih

/-- The kinds of the cells of so many structs, one behind the other. -/
def reps (ks : List CK) : Nat → List CK
  | 0 => []
  | n + 1 => ks ++ reps ks n

theorem cellsEq_app : ∀ {ks ms : List CK} {ds es : List D} {b : Bool}, cellsEq (ks ++ ms) ds es = some b → ∃ b1 b2, cellsEq ks (ds.take ks.length) (es.take ks.length) = some b1 ∧ cellsEq ms (ds.drop ks.length) (es.drop ks.length) = some b2 ∧ b = (b1 && b2)
  | [], ms, ds, es, b, h => ⟨true, b, by simp [cellsEq], by simpa using h, by simp⟩
  | k :: ks, ms, [], es, b, h => by cases es <;> simp [cellsEq] at h
  | k :: ks, ms, _ :: _, [], b, h => by simp [cellsEq] at h
  | k :: ks, ms, x :: ds, y :: es, b, h => by
    simp only [List.cons_append, cellsEq] at h
    split at h <;> try (cases h; done)
    rename_i c1 c2 h1 h2
    cases h
    obtain ⟨b1, b2, e1, e2, rfl⟩ := cellsEq_app h2
    exact ⟨c1 && b1, b2, by simp [cellsEq, h1, e1], by simpa using e2, by simp [Bool.and_assoc]⟩

theorem run_eqItems {P : Program} {K : Ctx} {w : World} (d : Nat) {e : TypeId} {ks : List CK} (hk : eqTy P 0 (P.fieldsOf e).toList = some ks) (hu : P.underlying e = some (.struct (P.fieldsOf e))) (hs : P.stoodInHeld e = false) (hc : P.cellsOf e = ks.length) (xs ys : Array Value) :
    ∀ (m j : Nat) (ds es : List D) (b : Bool), DenL K (xs.toList.drop (j * ks.length)) ds → DenL K (ys.toList.drop (j * ks.length)) es → cellsEq (reps ks m) ds es = some b →
      (Op.eqItems (d + 2) e (P.cellsOf e) xs ys (List.range' j m)).run P w = .ok b w
  | 0, j, ds, es, b, _, _, h => by
    cases ds <;> cases es <;> simp [reps, cellsEq] at h
    subst h; rfl
  | m + 1, j, ds, es, b, hd, he, h => by
    obtain ⟨b1, b2, h1, h2, rfl⟩ := cellsEq_app h
    obtain ⟨i, hi⟩ := info_of_underlying hu
    have hp : ∀ zs : Array Value, (part e zs (j * P.cellsOf e)).run P w = .ok (.agg (zs.extract (j * P.cellsOf e) (j * P.cellsOf e + P.cellsOf e))) w := fun zs => by
      simp [part, isAgg, run_underlying hu, run_sizeOf w hi]
    have hx : ∀ (zs : Array Value) (l : List D), DenL K (zs.toList.drop (j * ks.length)) l → DenL K ((zs.extract (j * P.cellsOf e) (j * P.cellsOf e + P.cellsOf e)).toList.drop 0) (l.take ks.length) := fun zs l hz => by
      rw [List.drop_zero, Array.toList_extract, List.extract_eq_take_drop, hc]
      have e1 : j * ks.length + ks.length - j * ks.length = ks.length := by omega
      rw [e1]
      exact hz.take ks.length
    have hy : ∀ (zs : Array Value) (l : List D), DenL K (zs.toList.drop (j * ks.length)) l → DenL K (zs.toList.drop ((j + 1) * ks.length)) (l.drop ks.length) := fun zs l hz => by
      have := hz.drop ks.length
      rwa [List.drop_drop, show j * ks.length + ks.length = (j + 1) * ks.length by rw [Nat.add_mul, Nat.one_mul]] at this
    have r1 : (Op.equalIn (d + 2) e (.agg (xs.extract (j * P.cellsOf e) (j * P.cellsOf e + P.cellsOf e))) (.agg (ys.extract (j * P.cellsOf e) (j * P.cellsOf e + P.cellsOf e)))).run P w = .ok b1 w := by
      rw [run_equalIn_struct w (d + 1) e _ _ hu hs]
      exact run_eqFields d _ _ _ 0 ks _ _ b1 hk (hx _ _ hd) (hx _ _ he) h1
    have ih := run_eqItems (w := w) d hk hu hs hc xs ys m (j + 1) _ _ b2 (hy _ _ hd) (hy _ _ he) h2
    rw [List.range'_succ]
    simp only [Op.eqItems, Sem.run_bind, hp, r1, Result.andThen_ok]
    cases b1
    · simp
    · simpa using ih

theorem eqD_cells {ks : List CK} {x y : D} {b : Bool} (h : eqD (.cells ks) x y = some b) : ∃ xs ys, x = .agg xs ∧ y = .agg ys ∧ cellsEq ks xs ys = some b := by
  cases x <;> cases y <;> simp [eqD] at h
  exact ⟨_, _, rfl, rfl, h⟩
theorem eqD_bool {x y : D} {b : Bool} (h : eqD .bool x y = some b) : ∃ c d, x = .val (.bool c) ∧ y = .val (.bool d) ∧ b = (c == d) := by
  unfold eqD at h
  split at h <;> try (cases h; done)
  · cases h; exact ⟨_, _, rfl, rfl, rfl⟩
  all_goals simp_all
theorem eqD_nil {k : NK} {x y : D} {b : Bool} (h : eqD (.nil k) x y = some b) : (nilOf k x = some true ∧ nilOf k y = some b) ∨ (nilOf k x = some b ∧ nilOf k y = some true) := by
  simp only [eqD] at h
  split at h
  · rename_i b' h1 h2; cases h; exact .inl ⟨h1, h2⟩
  · rename_i b' h1 h2; cases h; exact .inr ⟨h1, h2⟩
  · cases h

theorem sound_eqc {P : Program} {N : Nat} {o : Oper} {ng : Bool} {ty ty' : TypeId} {ks : List CK} {x y : Operand} {x' y' : X} (hop : o.op = .binOp (if ng then .neq else .eql) ty x y ty') (hx : X.of N x = some x') (hy : X.of N y = some y')
    (hu : P.underlying ty = some (.struct (P.fieldsOf ty))) (hs : P.stoodInHeld ty = false) (hg : P.eqGuardType P.depth ty = false) (hk : eqTy P 0 (P.fieldsOf ty).toList = some ks) : MSound P N o (.eq ng (.cells ks) x' y') := by
  refine ⟨(by rw [hop]; rfl), fun C K h h' w e a t d hP s f hq => ?_⟩
  simp only [M.ev, Option.map_eq_some_iff, Prod.mk.injEq] at hq
  obtain ⟨b, hb, rfl, rfl⟩ := hq
  have hdx := f.rd s hx
  have hdy := f.rd s hy
  obtain ⟨u, hu0⟩ : ∃ v, a.eval x = v := ⟨_, rfl⟩
  obtain ⟨v, hv0⟩ : ∃ v, a.eval y = v := ⟨_, rfl⟩
  rw [hu0] at hdx; rw [hv0] at hdy
  obtain ⟨xs, ys, h2, h3, hb⟩ := eqD_cells hb
  · rw [h2] at hdx; rw [h3] at hdy
    cases hdx with
    | agg us _ hdx =>
      cases hdy with
      | agg vs _ hdy =>
        have hr := run_eqFields (P := P) (w := w) 9998 us.toArray vs.toArray _ 0 ks xs ys b hk (by simpa using hdx) (by simpa using hdy) hb
        refine still s (v := .bool (if ng then !b else b)) ?_ (.val _ rfl)
        cases ng
        · simp [execOp, hop, hu0, hv0, run_eqGuard_agg w .eql ty x y _ _ hg, run_eql_struct w, run_equalIn_struct w 9999 ty _ _ hu hs, hr]
        · simp [execOp, hop, hu0, hv0, run_eqGuard_agg w .neq ty x y _ _ hg, run_neq_struct w, run_equalIn_struct w 9999 ty _ _ hu hs, hr]

theorem sound_eqa {P : Program} {N : Nat} {o : Oper} {ng : Bool} {ty ty' et : TypeId} {n : Nat} {ks : List CK} {x y : Operand} {x' y' : X} (hop : o.op = .binOp (if ng then .neq else .eql) ty x y ty') (hx : X.of N x = some x') (hy : X.of N y = some y')
    (hu : P.underlying ty = some (.array n et)) (hu2 : P.underlying et = some (.struct (P.fieldsOf et))) (hs : P.stoodInHeld et = false) (hg : P.eqGuardType P.depth ty = false) (hk : eqTy P 0 (P.fieldsOf et).toList = some ks) (hc : P.cellsOf et = ks.length) : MSound P N o (.eq ng (.cells (reps ks n)) x' y') := by
  refine ⟨(by rw [hop]; rfl), fun C K h h' w e a t d hP s f hq => ?_⟩
  simp only [M.ev, Option.map_eq_some_iff, Prod.mk.injEq] at hq
  obtain ⟨b, hb, rfl, rfl⟩ := hq
  have hdx := f.rd s hx
  have hdy := f.rd s hy
  obtain ⟨u, hu0⟩ : ∃ v, a.eval x = v := ⟨_, rfl⟩
  obtain ⟨v, hv0⟩ : ∃ v, a.eval y = v := ⟨_, rfl⟩
  rw [hu0] at hdx; rw [hv0] at hdy
  obtain ⟨xs, ys, h2, h3, hb⟩ := eqD_cells hb
  · rw [h2] at hdx; rw [h3] at hdy
    cases hdx with
    | agg us _ hdx =>
      cases hdy with
      | agg vs _ hdy =>
        obtain ⟨i, hi⟩ := info_of_underlying hu2
        have hr := run_eqItems (P := P) (w := w) 9997 hk hu2 hs hc us.toArray vs.toArray n 0 xs ys b (by simpa using hdx) (by simpa using hdy) hb
        rw [← List.range_eq_range'] at hr
        refine still s (v := .bool (if ng then !b else b)) ?_ (.val _ rfl)
        cases ng
        · simp [execOp, hop, hu0, hv0, run_eqGuard_agg w .eql ty x y _ _ hg, run_eql_struct w, run_equalIn_array w 9999 _ _ hu hi, hr]
        · simp [execOp, hop, hu0, hv0, run_eqGuard_agg w .neq ty x y _ _ hg, run_neq_struct w, run_equalIn_array w 9999 _ _ hu hi, hr]

theorem sound_eqb {P : Program} {N : Nat} {o : Oper} {ng : Bool} {ty ty' : TypeId} {x y : Operand} {x' y' : X} (hop : o.op = .binOp (if ng then .neq else .eql) ty x y ty') (hx : X.of N x = some x') (hy : X.of N y = some y')
    (hu : P.underlying ty = some .bool) : MSound P N o (.eq ng .bool x' y') := by
  refine ⟨(by rw [hop]; rfl), fun C K h h' w e a t d hP s f hq => ?_⟩
  simp only [M.ev, Option.map_eq_some_iff, Prod.mk.injEq] at hq
  obtain ⟨b, hb, rfl, rfl⟩ := hq
  have hdx := f.rd s hx
  have hdy := f.rd s hy
  obtain ⟨a1, b1, h2, h3, rfl⟩ := eqD_bool hb
  · rw [h2] at hdx; rw [h3] at hdy
    have e1 := hdx.val_eq; have e2 := hdy.val_eq
    refine still s (v := .bool (if ng then !(a1 == b1) else (a1 == b1))) ?_ (.val _ rfl)
    cases ng <;> simp [execOp, hop, e1, e2, eqGuard, binOp, Op.equal, Op.maxDepth, run_equalIn_bool' w 9999 ty a1 b1 hu]
end Go.Em
