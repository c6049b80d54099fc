/- A run of an operation does what its small operation says: nil, maps, strings that are ranged over, interfaces. -/
import Derived.Test.YtjgafgkkpofgbaaDoorEmK
import Derived.MapKept
namespace Go.Em
open Go Go.RowKit

def nkOf : Option TypeDesc → Option NK
  | some (.interface _) => some .iface
  | some (.slice _) => some .slice
  | some (.pointer _) => some .ptr
  | some (.map ..) => some .map
  | some (.func ..) => some .func
  | _ => none
def isNilC : Operand → Bool
  | .const .nilIface | .const .nilFunc | .const (.slice none 0 0) | .const (.pointer none) | .const (.map none) => true
  | _ => false

section
variable {P : Program} {N : Nat} {o : Oper}

def nilV : NK → Value → Option Bool
  | .iface, .nilIface => some true
  | .iface, .iface _ _ => some false
  | .slice, .slice none 0 0 => some true
  | .slice, .slice (some _) _ _ => some false
  | .ptr, .pointer none => some true
  | .ptr, .pointer (some _) => some false
  | .map, .map none => some true
  | .map, .map (some _) => some false
  | .func, .nilFunc => some true
  | .func, .func _ _ _ => some false
  | _, _ => none
theorem nilV_of {K : Ctx} {nk : NK} {d : D} {v : Value} {b : Bool} (hd : Den K v d) (h : nilOf nk d = some b) : nilV nk v = some b := by
  unfold nilOf at h
  split at h <;> (try (cases h; done)) <;> cases h <;> cases hd <;> rfl

theorem run_eq_nil {w : World} {ty : TypeId} {nk : NK} (hn : nkOf (P.underlying ty) = some nk) {u v : Value} {a b : Bool} (hu : nilV nk u = some a) (hv : nilV nk v = some b) (hab : a = true ∨ b = true) :
    (Op.equal ty u v).run P w = .ok (a && b) w := by
  have hop : Op.equal ty u v = Op.equalIn (9999 + 1) ty u v := rfl
  rw [hop]
  unfold Op.equalIn
  cases hty : P.underlying ty with
  | none => rw [hty] at hn; cases hn
  | some td =>
    rw [hty] at hn
    simp only [Sem.run_bind, run_underlying hty, Result.andThen_ok]
    unfold nilV at hu hv
    cases td <;> simp only [nkOf, Option.some.injEq] at hn <;> (try (cases hn; done)) <;> subst hn
    all_goals
      split at hu <;> (try (cases hu; done)) <;> (try contradiction) <;> cases hu
      all_goals
        split at hv <;> (try (cases hv; done)) <;> (try contradiction) <;> cases hv
        all_goals first | rfl | (simp at hab)

theorem run_eqop {w : World} {op : BinOp} (hop : op = .eql ∨ op = .neq) {ty : TypeId} {nk : NK} {x y : Operand} (hc : (isNilC x || isNilC y) = true) {u v : Value} {a b : Bool} (hu : nilV nk u = some a) (hv : nilV nk v = some b) (hr : (Op.equal ty u v).run P w = .ok (a && b) w) :
    (do eqGuard op ty x y u v; binOp op ty u v : Sem Value).run P w = .ok (.bool (if op = .neq then !(a && b) else (a && b))) w := by
  have hconst : (∃ q, x = .const q) ∨ ∃ q, y = .const q := by
    simp only [Bool.or_eq_true] at hc
    rcases hc with hc | hc
    · left; unfold isNilC at hc; split at hc <;> first | exact ⟨_, rfl⟩ | cases hc
    · right; unfold isNilC at hc; split at hc <;> first | exact ⟨_, rfl⟩ | cases hc
  have hg : (eqGuard op ty x y u v).run P w = .ok () w := by
    unfold nilV at hu hv
    split at hu <;> (try (cases hu; done))
    all_goals
      split at hv <;> (try (cases hv; done)) <;> (try contradiction)
      all_goals first
        | (rcases hop with rfl | rfl <;> rcases hconst with ⟨q, rfl⟩ | ⟨q, rfl⟩ <;> simp [eqGuard]; done)
  have hb : binOp op ty u v = (if op = .neq then do pure (.bool (!(← Op.equal ty u v))) else do pure (.bool (← Op.equal ty u v))) := by
    unfold nilV at hu
    split at hu <;> (try (cases hu; done))
    all_goals rcases hop with rfl | rfl <;> rfl
  simp only [Sem.run_bind, hg, Result.andThen_ok, hb]
  rcases hop with rfl | rfl <;> simp [hr]

theorem sound_eqn {ng : Bool} {ty ty' : TypeId} {nk : NK} {x y : Operand} {x' y' : X} (hop : o.op = .binOp (if ng then .neq else .eql) ty x y ty') (hx : X.of N x = some x') (hy : X.of N y = some y')
    (hn : nkOf (P.underlying ty) = some nk) (hc : (isNilC x || isNilC y) = true) : MSound P N o (.eq ng (.nil nk) x' y') := by
  refine ⟨(by rw [hop]; rfl), fun C K h h' w e a t d hP s f hq => ?_⟩
  simp only [M.ev, Option.map_eq_some_iff, Prod.mk.injEq] at hq
  obtain ⟨b, hb, rfl, rfl⟩ := hq
  have hdx := f.rd s hx
  have hdy := f.rd s hy
  have hcase : ∃ a1 b1, nilOf nk (rd C.pg.gl e x') = some a1 ∧ nilOf nk (rd C.pg.gl e y') = some b1 ∧ (a1 = true ∨ b1 = true) ∧ b = (a1 && b1) := by
    rcases eqD_nil hb with ⟨h1, h2⟩ | ⟨h1, h2⟩
    · exact ⟨true, b, h1, h2, .inl rfl, by simp⟩
    · exact ⟨b, true, h1, h2, .inr rfl, by simp⟩
  obtain ⟨a1, b1, h1, h2, h3, rfl⟩ := hcase
  have hu := nilV_of hdx h1
  have hv := nilV_of hdy h2
  have hr := run_eq_nil (P := P) (w := w) hn hu hv h3
  refine still s (v := .bool (if ng then !(a1 && b1) else (a1 && b1))) ?_ (.val _ rfl)
  cases ng
  · have := run_eqop (P := P) (w := w) (op := .eql) (.inl rfl) hc hu hv hr
    simp only [execOp, hop, Bool.false_eq_true, if_false, Sem.run_bind] at this ⊢
    rw [this]; rfl
  · have := run_eqop (P := P) (w := w) (op := .neq) (.inr rfl) hc hu hv hr
    simp only [execOp, hop, if_true, Sem.run_bind] at this ⊢
    rw [this]; rfl

theorem sound_mki {ty : TypeId} {x : Operand} {x' : X} (hop : o.op = .makeInterface ty x) (hx : X.of N x = some x') {td : TypeDesc} (hu : P.underlying ty = some td) (hni : ∀ ms, td ≠ .interface ms) : MSound P N o (.mki ty x') := by
  refine ⟨(by rw [hop]; rfl), fun C K h h' w e a t d hP s f hq => ?_⟩
  simp only [M.ev, Option.some.injEq, Prod.mk.injEq] at hq
  obtain ⟨rfl, rfl⟩ := hq
  refine still s (v := .iface ty (a.eval x)) ?_ (.iface _ _ _ (f.rd s hx))
  cases td <;> first | (simp [execOp, hop, Instr.makeInterface, run_underlying hu]; done) | exact absurd rfl (hni _)

def okZero : Value → Bool
  | .agg cs => cs.toList.all (·.oneCell')
  | v => v.oneCell'
theorem den_of {K : Ctx} {z : Value} (h : okZero z = true) : Den K z (D.of z) := by
  unfold D.of
  split
  · rename_i cs
    have := Den.agg (S := K) cs.toList _ (vals_den (by simpa [okZero] using h))
    simpa using this
  · exact .slnil _
  · rename_i h1 h2
    refine .val _ ?_
    unfold okZero at h
    split at h
    · exact absurd rfl (h1 _)
    · exact h

theorem sound_ta {xt ty : TypeId} {i : TypeInfo} {z : Value} {x : Operand} {x' : X} (hop : o.op = .typeAssert x xt ty true) (hx : X.of N x = some x') (hi : P.info? ty = some i) (hz : i.zero = some z) (hzo : okZero z = true) {td : TypeDesc} (hu : P.underlying ty = some td) (hni : ∀ ms, td ≠ .interface ms) : MSound P N o (.ta ty z x') := by
  refine ⟨(by rw [hop]; rfl), fun C K h h' w e a t d hP s f hq => ?_⟩
  have hd := f.rd s hx
  obtain ⟨v, hv⟩ : ∃ v, a.eval x = v := ⟨_, rfl⟩
  rw [hv] at hd
  have hzero : (zeroValue ty).run P w = .ok z w := by simp [zeroValue, typeInfo, hi, hz]
  simp only [M.ev] at hq
  split at hq <;> try (cases hq; done)
  · rename_i hr
    cases hq
    rw [hr] at hd
    have := hd.val_eq
    subst this
    refine still s (v := .tuple #[z, .bool false]) ?_ (.tup [z, .bool false] _ (.cons _ _ _ _ (den_of hzo) (.cons _ _ _ _ (.val _ rfl) .nil)))
    cases td <;> first | (simp [execOp, hop, hv, Instr.typeAssert, run_underlying hu, hzero]; done) | exact absurd rfl (hni _)
  · rename_i u d' hr
    rw [hr] at hd
    cases hd with
    | iface _ q _ hd' =>
      split at hq <;> cases hq
      · rename_i hut
        subst hut
        refine still s (v := .tuple #[q, .bool true]) ?_ (.tup [q, .bool true] _ (.cons _ _ _ _ hd' (.cons _ _ _ _ (.val _ rfl) .nil)))
        cases td <;> first | (simp [execOp, hop, hv, Instr.typeAssert, run_underlying hu]; done) | exact absurd rfl (hni _)
      · rename_i hut
        refine still s (v := .tuple #[z, .bool false]) ?_ (.tup [z, .bool false] _ (.cons _ _ _ _ (den_of hzo) (.cons _ _ _ _ (.val _ rfl) .nil)))
        cases td <;> first | (simp [execOp, hop, hv, Instr.typeAssert, run_underlying hu, hut, hzero]; done) | exact absurd rfl (hni _)

theorem sound_rng {ty : TypeId} {x : Operand} {x' : X} (hop : o.op = .range ty x) (hx : X.of N x = some x') (hu : P.underlying ty = some .string) : MSound P N o (.rng x') := by
  refine ⟨(by rw [hop]; rfl), fun C K h h' w e a t d hP s f hq => ?_⟩
  have hd := f.rd s hx
  simp only [M.ev] at hq
  split at hq <;> try (cases hq; done)
  rename_i st hr
  rw [hr] at hd
  have hv := hd.val_eq
  simp only [Option.map_eq_some_iff, Prod.mk.injEq] at hq
  obtain ⟨h2, ha, rfl, rfl⟩ := hq
  have hle := Ctx.at_le w.heap.size 0 (s.fresh t (alloc_some ha).1)
  obtain ⟨_, s'⟩ := s.new ha 0 (w' := w.alloc (.stringIter st 0)) ((Below.refl _ w).alloc (Nat.le_refl _) _) (World.alloc_heap_new w _) (show BlkRel C.ofc _ 0 _ (.iter st 0) from rfl)
  refine ⟨.pointer (some ⟨w.heap.size, 0, none⟩), _, _, .value _ _ ?_, hle, s', .ptr _ _ _ _ (K.at_same _ _ _)⟩
  simp [execOp, hop, hv, Instr.range, run_underlying hu, newObj, Sem.run]

theorem putObj_grown {w : World} {b : Nat} (o : Obj) : w.grownBy (w.putObj b o) (some b) := ⟨rfl, rfl, rfl, by simp, fun j _ hj => World.putObj_heap_other (fun x => hj (by rw [x]))⟩

theorem sound_nxt {x : Operand} {x' : X} (hop : o.op = .next x true) (hx : X.of N x = some x') : MSound P N o (.nxt x') := by
  refine ⟨(by rw [hop]; rfl), fun C K h h' w e a t d hP s f hq => ?_⟩
  have hd := f.rd s hx
  simp only [M.ev] at hq
  split at hq <;> try (cases hq; done)
  rename_i k hr
  rw [hr] at hd
  obtain ⟨b, n, hl, hv⟩ := hd.ptr_inv
  split at hq <;> try (cases hq; done)
  rename_i st pos hk
  obtain ⟨b', n', O, i1, i2, i3, i4, i5⟩ := s.live k _ hk
  rw [hl] at i1; cases i1
  have i4' : O = .stringIter st pos := i4
  subst i4'
  have hlt : b < w.heap.size := (Array.getElem?_eq_some_iff.1 i3).1
  have hget : (getObj b).run P w = .ok (.stringIter st pos) w := by simp [getObj, Sem.run, i3]
  split at hq
  · rename_i hp
    cases hq
    refine ⟨.tuple #[.bool true, goInt pos, .int .i32 (Utf8.decode st pos).1], w.putObj b (.stringIter st (pos + (Utf8.decode st pos).2)), K, .value _ _ ?_, .refl K, s.turn hk hl (putObj_grown _) (World.putObj_heap_same hlt) (show BlkRel C.ofc _ _ _ (.iter st _) from rfl), ?_⟩
    · have hset : (setObj b (.stringIter st (pos + (Utf8.decode st pos).2))).run P w = .ok () (w.putObj b (.stringIter st (pos + (Utf8.decode st pos).2))) := by simp [setObj, Sem.run, i3, World.putObj]
      simp [execOp, hop, hv, Instr.next, hget, hp, hset]
    · exact .tup [_, _, _] _ (.cons _ _ _ _ (.val _ rfl) (.cons _ _ _ _ (.val _ rfl) (.cons _ _ _ _ (.val _ rfl) .nil)))
  · rename_i hp
    cases hq
    refine still s (v := .tuple #[.bool false]) ?_ (.tup [_] _ (.cons _ _ _ _ (.val _ rfl) .nil))
    simp [execOp, hop, hv, Instr.next, hget, hp]

theorem sound_mkmc {ty : TypeId} {c : Operand} {c' : X} (hop : o.op = .makeMap ty (some c)) (hc : X.of N c = some c') {kt vt : TypeId} (hu : P.underlying ty = some (.map kt vt)) : MSound P N o (.mkmc c') := by
  refine ⟨(by rw [hop]; rfl), fun C K h h' w e a t d hP s f hq => ?_⟩
  have hdc := f.rd s hc
  simp only [M.ev] at hq
  split at hq <;> try (cases hq; done)
  rename_i k n hrc
  rw [hrc] at hdc
  have hcv := hdc.val_eq
  simp only [Option.map_eq_some_iff, Prod.mk.injEq] at hq
  obtain ⟨h2, ha, rfl, rfl⟩ := hq
  have hle := Ctx.at_le w.heap.size 0 (s.fresh t (alloc_some ha).1)
  obtain ⟨_, s'⟩ := s.new ha 0 (w' := w.alloc (.map #[] 0)) ((Below.refl _ w).alloc (Nat.le_refl _) _) (World.alloc_heap_new w _) (show BlkRel C.ofc _ 0 _ (.map []) from ⟨#[], 0, rfl, .nil⟩)
  refine ⟨.map (some w.heap.size), _, _, .value _ _ ?_, hle, s', .mapr _ _ _ (K.at_same _ _ _)⟩
  simp [execOp, hop, hcv, Instr.makeMap, underlying, hu, asInt, asIntOf, newObj, Sem.run]

theorem sound_mkm {ty : TypeId} (hop : o.op = .makeMap ty none) : MSound P N o .mkm := by
  refine ⟨(by rw [hop]; rfl), fun C K h h' w e a t d hP s f hq => ?_⟩
  simp only [M.ev, Option.map_eq_some_iff, Prod.mk.injEq] at hq
  obtain ⟨h2, ha, rfl, rfl⟩ := hq
  have hle := Ctx.at_le w.heap.size 0 (s.fresh t (alloc_some ha).1)
  obtain ⟨_, s'⟩ := s.new ha 0 (w' := w.alloc (.map #[] 0)) ((Below.refl _ w).alloc (Nat.le_refl _) _) (World.alloc_heap_new w _) (show BlkRel C.ofc _ 0 _ (.map []) from ⟨#[], 0, rfl, .nil⟩)
  refine ⟨.map (some w.heap.size), _, _, .value _ _ ?_, hle, s', .mapr _ _ _ (K.at_same _ _ _)⟩
  simp [execOp, hop, Instr.makeMap, newObj, Sem.run]

theorem cellEq_same {K : Ctx} {td : TypeDesc} {ck : CK} (hk : ckOf (some td) = some ck) {u v : Value} {x y : D} {b : Bool} (hu : Den K u x) (hv : Den K v y) (h : cellEq ck x y = some b) : Instr.sameNow td u v = some b := by
  unfold cellEq at h
  split at h <;> try (cases h; done)
  · split at h <;> cases h
    rename_i heq; subst heq
    have e1 := hu.val_eq; have e2 := hv.val_eq
    subst e1 e2
    cases td <;> simp_all [ckOf, Instr.sameNow]
  · cases h
    have e1 := hu.val_eq; have e2 := hv.val_eq
    subst e1 e2
    cases td <;> simp_all [ckOf, Instr.sameNow]
  · cases h
    have e1 := hu.val_eq; have e2 := hv.val_eq
    subst e1 e2
    cases td <;> simp_all [ckOf, Instr.sameNow]
theorem find_den {K : Ctx} {td : TypeDesc} {ck : CK} (hk : ckOf (some td) = some ck) {kv : Value} {k : D} (hd : Den K kv k) : ∀ (ents : List MapEntry) (es : List (D × D)) (i : Nat) (r : Option (Nat × D)), DenE K ents es → findD ck k es i = some r →
    (r = none ∧ Instr.findNow td kv ents i = some none) ∨ ∃ j v e d, r = some (i + j, d) ∧ Instr.findNow td kv ents i = some (some (i + j, v)) ∧ ents[j]? = some e ∧ v = e.val ∧ Den K v d ∧ es[j]?.map (·.2) = some d ∧ Instr.sameNow td kv e.key = some true
  | [], [], i, r, _, h => by simp only [findD, Option.some.injEq] at h; subst h; exact .inl ⟨rfl, rfl⟩
  | e :: ents, (j, v) :: es, i, r, hde, h => by
    cases hde with
    | cons _ _ _ _ _ h1 h2 h3 =>
      simp only [findD] at h
      split at h <;> try (cases h; done)
      · rename_i hc
        cases h
        have := cellEq_same hk hd h1 hc
        exact .inr ⟨0, e.val, e, v, rfl, by simp [Instr.findNow, this], rfl, rfl, h2, rfl, this⟩
      · rename_i hc
        have hs := cellEq_same hk hd h1 hc
        rcases find_den hk hd ents es (i + 1) r h3 h with ⟨rfl, h4⟩ | ⟨j', v', e', d', rfl, h4, h5, h6, h7, h8, h9⟩
        · exact .inl ⟨rfl, by simp [Instr.findNow, hs, h4]⟩
        · refine .inr ⟨j' + 1, v', e', d', ?_, ?_, by simpa using h5, h6, h7, by simpa using h8, h9⟩
          · congr 2; omega
          · simp only [Instr.findNow, hs, h4]; congr 3; omega
  | [], _ :: _, _, _, h, _ => by cases h
  | _ :: _, [], _, _, h, _ => by cases h

theorem run_checkKey' {w : World} {kt : TypeId} {td : TypeDesc} {ck : CK} (hd : P.underlying kt = some td) (hk : ckOf (some td) = some ck) (e : Bool) (n : Nat) (k : Value) : (Instr.checkKey e (n + 1) kt k).run P w = .ok () w := by
  unfold Instr.checkKey
  simp only [Sem.run_bind, run_underlying hd, Result.andThen_ok]
  cases td <;> simp [ckOf] at hk <;> rfl

theorem DenE.set {K : Ctx} : ∀ {ents : List MapEntry} {es : List (D × D)}, DenE K ents es → ∀ (j : Nat) (f : MapEntry → MapEntry) {k d : D}, (∀ e, ents[j]? = some e → Den K (f e).key k ∧ Den K (f e).val d) → DenE K (ents.modify j f) (es.set j (k, d))
  | [], [], _, j, f, k, d, _ => by simpa using DenE.nil
  | e :: ents, p :: es, h, 0, f, k, d, hf => by
    cases h with
    | cons _ _ _ _ _ h1 h2 h3 =>
      obtain ⟨a, b⟩ := hf e rfl
      simpa using DenE.cons _ _ _ _ _ a b h3
  | e :: ents, p :: es, h, j + 1, f, k, d, hf => by
    cases h with
    | cons _ _ _ _ _ h1 h2 h3 => simpa using DenE.cons _ _ _ _ _ h1 h2 (DenE.set h3 j f fun e' he' => hf e' (by simpa using he'))
  | [], _ :: _, h, _, _, _, _, _ => by cases h
  | _ :: _, [], h, _, _, _, _, _ => by cases h
theorem DenE.snoc {K : Ctx} : ∀ {ents : List MapEntry} {es : List (D × D)}, DenE K ents es → ∀ (e : MapEntry) {k d : D}, Den K e.key k → Den K e.val d → DenE K (ents ++ [e]) (es ++ [(k, d)])
  | [], [], _, e, k, d, h1, h2 => .cons _ _ _ _ _ h1 h2 .nil
  | _ :: _, _ :: _, h, e, k, d, h1, h2 => by
    cases h with
    | cons _ _ _ _ _ i1 i2 i3 => exact .cons _ _ _ _ _ i1 i2 (DenE.snoc i3 e h1 h2)
  | [], _ :: _, h, _, _, _, _, _ => by cases h
  | _ :: _, [], h, _, _, _, _, _ => by cases h

theorem sameNow_bits {td : TypeDesc} {u v : Value} (h : Instr.sameNow td u v = some true) (n : Nat) : Instr.sameBits n v u = true := by
  unfold Instr.sameNow at h
  split at h <;> try (cases h; done)
  · split at h <;> simp at h
    rename_i hk
    subst hk; subst h
    cases n <;> simp [Instr.sameBits]
  · simp only [Option.some.injEq, beq_toListBytes, beq_iff_eq] at h
    cases n <;> simp only [Instr.sameBits, beq_toListBytes, h, beq_self_eq_true]
  · simp at h; subst h; cases n <;> simp [Instr.sameBits]

theorem getObj_map {w : World} {r : Nat} {es : Array MapEntry} {clock : Nat} (hb : w.heap[r]? = some (.map es clock)) : (getObj r).run P w = .ok (.map es clock) w := by
  simp [getObj, Sem.run, hb]
theorem setObj_map {w : World} {r : Nat} {es : Array MapEntry} {clock : Nat} (o : Obj) (hb : w.heap[r]? = some (.map es clock)) : (setObj r o).run P w = .ok () (w.putObj r o) := by
  simp [setObj, Sem.run, hb, World.putObj]
theorem findKey_now {w : World} {kt : TypeId} {d : TypeDesc} {k : Value} {l : List MapEntry} {a : Option (Nat × Value)} (hd : P.underlying kt = some d) (h : Instr.findNow d k l 0 = some a) : (Instr.findKey kt k l).run P w = .ok a w := by
  simp [Instr.findKey, run_underlying hd, h]

theorem sound_upd {ty kt vt : TypeId} {td : TypeDesc} {ck : CK} {x k v : Operand} {x' k' v' : X} (hop : o.op = .mapUpdate ty x k v ∨ o.op = .insert ty x k v) (hx : X.of N x = some x') (hk : X.of N k = some k') (hv : X.of N v = some v')
    (hu : P.underlying ty = some (.map kt vt)) (hd : P.underlying kt = some td) (hck : ckOf (some td) = some ck) : MSound P N o (.upd ck x' k' v') := by
  refine ⟨(by rcases hop with x | x <;> rw [x] <;> rfl), fun C K h h' w e a t d hP s f hq => ?_⟩
  have hdx := f.rd s hx
  have hdk := f.rd s hk
  have hdv := f.rd s hv
  simp only [M.ev] at hq
  split at hq <;> try (cases hq; done)
  rename_i j hr
  rw [hr] at hdx
  obtain ⟨mv, hmv⟩ : ∃ v, a.eval x = v := ⟨_, rfl⟩
  rw [hmv] at hdx
  cases hdx with
  | mapr _ b n hl =>
    split at hq <;> try (cases hq; done)
    rename_i es hes
    obtain ⟨b', n', O, i1, i2, i3, ⟨ents, clock, rfl, hde⟩, i5⟩ := s.live j _ hes
    rw [hl] at i1; cases i1
    have hlt : b < w.heap.size := (Array.getElem?_eq_some_iff.1 i3).1
    have exec : ∀ w', (Instr.mapUpdate ty (.map (some b)) (a.eval k) (a.eval v)).run P w = .ok () w' → (execOp a.eval o).run P w = .ok .skip w' := fun w' hr => by
      rcases hop with hop | hop <;> simp [execOp, hop, hmv, hr]
    split at hq <;> try (cases hq; done)
    · rename_i i dd hf
      cases hq
      rcases find_den hck hdk _ _ 0 _ hde hf with ⟨h1, _⟩ | ⟨i', vv, ee, d', h1, h2, h3, h4, h5, h6, h7⟩
      · cases h1
      · simp only [Nat.zero_add, Option.some.injEq, Prod.mk.injEq] at h1
        obtain ⟨h1, rfl⟩ := h1
        subst h1
        rw [Nat.zero_add] at h2
        have hee : ents[i]? = some ee := by simpa using h3
        refine ⟨undef, w.putObj b (.map (ents.modify i fun e => { e with key := a.eval k, val := a.eval v }) clock), K, .skip _ (exec _ ?_), .refl K,
          s.turn hes hl (putObj_grown _) (World.putObj_heap_same hlt) (show BlkRel C.ofc _ _ _ (.map _) from ⟨_, clock, rfl, ?_⟩), .junk _⟩
        · simp [Instr.mapUpdate, run_underlying hu, getObj_map i3, run_checkKey' hd hck, findKey_now hd h2, hee, Instr.keyThatStays, sameNow_bits h7, setObj_map _ i3]
        · rw [Array.toList_modify]
          exact hde.set i _ fun e' _ => ⟨hdk, hdv⟩
    · rename_i hf
      cases hq
      rcases find_den hck hdk _ _ 0 _ hde hf with ⟨_, h2⟩ | ⟨i', vv, ee, d', h1, _⟩
      · refine ⟨undef, w.putObj b (.map (ents.push { key := a.eval k, val := a.eval v, born := clock }) (clock + 1)), K, .skip _ (exec _ ?_), .refl K,
          s.turn hes hl (putObj_grown _) (World.putObj_heap_same hlt) (show BlkRel C.ofc _ _ _ (.map _) from ⟨_, clock + 1, rfl, ?_⟩), .junk _⟩
        · simp [Instr.mapUpdate, run_underlying hu, getObj_map i3, run_checkKey' hd hck, findKey_now hd h2, setObj_map _ i3]
        · rw [Array.toList_push]
          exact hde.snoc _ hdk hdv
      · cases h1

theorem sound_lk {ty kt vt : TypeId} {td : TypeDesc} {ck : CK} {i : TypeInfo} {z : Value} {x k : Operand} {x' k' : X} {ok : Bool} (hop : o.op = .lookup ty x k ok) (hx : X.of N x = some x') (hk : X.of N k = some k')
    (hu : P.underlying ty = some (.map kt vt)) (hd : P.underlying kt = some td) (hck : ckOf (some td) = some ck) (hi : P.info? vt = some i) (hz : i.zero = some z) (hzo : okZero z = true) : MSound P N o (.lk ck z ok x' k') := by
  refine ⟨(by rw [hop]; rfl), fun C K h h' w e a t d hP s f hq => ?_⟩
  have hdx := f.rd s hx
  have hdk := f.rd s hk
  have hzero : (zeroValue vt).run P w = .ok z w := by simp [zeroValue, typeInfo, hi, hz]
  obtain ⟨mv, hmv⟩ : ∃ v, a.eval x = v := ⟨_, rfl⟩
  rw [hmv] at hdx
  simp only [M.ev] at hq
  split at hq <;> try (cases hq; done)
  rename_i es hes
  have hmap : ∃ ents : Array MapEntry, DenE K ents.toList es ∧ ((mv = .map none ∧ ents = #[]) ∨ ∃ b clock, mv = .map (some b) ∧ w.heap[b]? = some (.map ents clock)) := by
    unfold mapOf at hes
    split at hes <;> try (cases hes; done)
    · rename_i es' hr
      cases hes
      rw [hr] at hdx
      cases hdx with
      | map r ents clock _ ho hde => exact ⟨ents, hde, .inr ⟨r, clock, rfl, (s.objs _ _ ho).1⟩⟩
      | mapnil => exact ⟨#[], .nil, .inl ⟨rfl, rfl⟩⟩
    · rename_i hr
      cases hes
      rw [hr] at hdx
      exact ⟨#[], .nil, .inl ⟨hdx.val_eq, rfl⟩⟩
    · rename_i j hr
      rw [hr] at hdx
      split at hes <;> cases hes
      rename_i hj
      cases hdx with
      | mapr _ b n hl =>
        obtain ⟨b', n', O, i1, i2, i3, ⟨ents, clock, rfl, hde⟩, i5⟩ := s.live j _ hj
        rw [hl] at i1; cases i1
        exact ⟨ents, hde, .inr ⟨b, clock, rfl, i3⟩⟩
  obtain ⟨ents, hde, hform⟩ := hmap
  have exec : ∀ r v0 b0, Instr.findNow td (a.eval k) ents.toList 0 = some r → ((r = none ∧ v0 = z ∧ b0 = false) ∨ ∃ i, r = some (i, v0) ∧ b0 = true) → (execOp a.eval o).run P w = .ok (.value (if ok then .tuple #[v0, .bool b0] else v0)) w := fun r v0 b0 hf hc => by
    have hfk := findKey_now (P := P) (w := w) hd hf
    rcases hform with ⟨rfl, rfl⟩ | ⟨b, clock, rfl, i3⟩
    · rcases hc with ⟨rfl, rfl, rfl⟩ | ⟨i, rfl, rfl⟩
      · simp at hfk
        cases ok <;> simp [execOp, hop, hmv, Instr.lookup, run_underlying hu, run_checkKey' hd hck, hfk, hzero]
      · simp [Instr.findNow] at hf
    · rcases hc with ⟨rfl, rfl, rfl⟩ | ⟨i, rfl, rfl⟩
      · cases ok <;> simp [execOp, hop, hmv, Instr.lookup, run_underlying hu, getObj_map i3, run_checkKey' hd hck, hfk, hzero]
      · cases ok <;> simp [execOp, hop, hmv, Instr.lookup, run_underlying hu, getObj_map i3, run_checkKey' hd hck, hfk]
  split at hq <;> try (cases hq; done)
  · rename_i i0 dd hf
    cases hq
    rcases find_den hck hdk _ _ 0 _ hde hf with ⟨h1, _⟩ | ⟨i', vv, ee, d', h1, h2, h3, h4, h5, h6, h7⟩
    · cases h1
    · simp only [Option.some.injEq, Prod.mk.injEq] at h1
      obtain ⟨rfl, rfl⟩ := h1
      refine still s (exec _ vv true h2 (.inr ⟨_, rfl, rfl⟩)) ?_
      cases ok
      · exact h5
      · exact .tup [_, _] _ (.cons _ _ _ _ h5 (.cons _ _ _ _ (.val _ rfl) .nil))
  · rename_i hf
    cases hq
    rcases find_den hck hdk _ _ 0 _ hde hf with ⟨_, h2⟩ | ⟨i', vv, ee, d', h1, _⟩
    · refine still s (exec _ z false h2 (.inl ⟨rfl, rfl, rfl⟩)) ?_
      cases ok
      · exact den_of hzo
      · exact .tup [_, _] _ (.cons _ _ _ _ (den_of hzo) (.cons _ _ _ _ (.val _ rfl) .nil))
    · cases h1
end
end Go.Em
