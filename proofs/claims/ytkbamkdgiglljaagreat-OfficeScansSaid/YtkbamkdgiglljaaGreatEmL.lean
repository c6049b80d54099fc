/- A run of an operation does what its small operation says: nil, maps, strings that are ranged over, interfaces. -/
import Derived.Test.YtkbamkdgiglljaaGreatEmI
import Derived.MapKept
import Derived.Lib.ConvBytes
import Derived.Laws.IdiomStrings
import Derived.Laws.AppendOwn
namespace Go.Em
open Go Go.RowKit

def nkOf : Option TypeDesc → Option NK
  | some (.interface _) => some .iface
  | some (.slice _) => some .slice
  | some (.pointer _) => some .ptr
  | some (.map ..) => some .map
  | some (.func ..) => some .func
  | _ => none
def isNilC : Operand → Bool
  | .const .nilIface | .const .nilFunc | .const (.slice none 0 0) | .const (.pointer none) | .const (.map none) => true
  | _ => false

section
variable {P : Program} {N : Nat} {o : Oper}

def nilV : NK → Value → Option Bool
  | .iface, .nilIface => some true
  | .iface, .iface _ _ => some false
  | .slice, .slice none 0 0 => some true
  | .slice, .slice (some _) _ _ => some false
  | .ptr, .pointer none => some true
  | .ptr, .pointer (some _) => some false
  | .map, .map none => some true
  | .map, .map (some _) => some false
  | .func, .nilFunc => some true
  | .func, .func _ _ _ => some false
  | _, _ => none
theorem nilV_of {K : Ctx} {nk : NK} {d : D} {v : Value} {b : Bool} (hd : Den K v d) (h : nilOf nk d = some b) : nilV nk v = some b := by
  unfold nilOf at h
  split at h <;> (try (cases h; done)) <;> cases h <;> cases hd <;> rfl

theorem run_eq_nil {w : World} {ty : TypeId} {nk : NK} (hn : nkOf (P.underlying ty) = some nk) {u v : Value} {a b : Bool} (hu : nilV nk u = some a) (hv : nilV nk v = some b) (hab : a = true ∨ b = true) :
    (Op.equal ty u v).run P w = .ok (a && b) w := by
  have hop : Op.equal ty u v = Op.equalIn (9999 + 1) ty u v := rfl
  rw [hop]
  unfold Op.equalIn
  cases hty : P.underlying ty with
  | none => rw [hty] at hn; cases hn
  | some td =>
    rw [hty] at hn
    simp only [Sem.run_bind, run_underlying hty, Result.andThen_ok]
    unfold nilV at hu hv
    cases td <;> simp only [nkOf, Option.some.injEq] at hn <;> (try (cases hn; done)) <;> subst hn
    all_goals
      split at hu <;> (try (cases hu; done)) <;> (try contradiction) <;> cases hu
      all_goals
        split at hv <;> (try (cases hv; done)) <;> (try contradiction) <;> cases hv
        all_goals first | rfl | (simp at hab)

theorem run_eqop {w : World} {op : BinOp} (hop : op = .eql ∨ op = .neq) {ty : TypeId} {nk : NK} {x y : Operand} (hc : (isNilC x || isNilC y) = true) {u v : Value} {a b : Bool} (hu : nilV nk u = some a) (hv : nilV nk v = some b) (hr : (Op.equal ty u v).run P w = .ok (a && b) w) :
    (do eqGuard op ty x y u v; binOp op ty u v : Sem Value).run P w = .ok (.bool (if op = .neq then !(a && b) else (a && b))) w := by
  have hconst : (∃ q, x = .const q) ∨ ∃ q, y = .const q := by
    simp only [Bool.or_eq_true] at hc
    rcases hc with hc | hc
    · left; unfold isNilC at hc; split at hc <;> first | exact ⟨_, rfl⟩ | cases hc
    · right; unfold isNilC at hc; split at hc <;> first | exact ⟨_, rfl⟩ | cases hc
  have hg : (eqGuard op ty x y u v).run P w = .ok () w := by
    unfold nilV at hu hv
    split at hu <;> (try (cases hu; done))
    all_goals
      split at hv <;> (try (cases hv; done)) <;> (try contradiction)
      all_goals first
        | (rcases hop with rfl | rfl <;> rcases hconst with ⟨q, rfl⟩ | ⟨q, rfl⟩ <;> simp [eqGuard]; done)
  have hb : binOp op ty u v = (if op = .neq then do pure (.bool (!(← Op.equal ty u v))) else do pure (.bool (← Op.equal ty u v))) := by
    unfold nilV at hu
    split at hu <;> (try (cases hu; done))
    all_goals rcases hop with rfl | rfl <;> rfl
  simp only [Sem.run_bind, hg, Result.andThen_ok, hb]
  rcases hop with rfl | rfl <;> simp [hr]

theorem sound_eqn {ng : Bool} {ty ty' : TypeId} {nk : NK} {x y : Operand} {x' y' : X} (hop : o.op = .binOp (if ng then .neq else .eql) ty x y ty') (hx : X.of N x = some x') (hy : X.of N y = some y')
    (hn : nkOf (P.underlying ty) = some nk) (hc : (isNilC x || isNilC y) = true) : MSound P N o (.eq ng (.nil nk) x' y') := by
  refine ⟨(by rw [hop]; rfl), fun C K h h' w e a t d hP s f hq => ?_⟩
  simp only [M.ev, Option.map_eq_some_iff, Prod.mk.injEq] at hq
  obtain ⟨b, hb, rfl, rfl⟩ := hq
  have hdx := f.rd s hx
  have hdy := f.rd s hy
  have hcase : ∃ a1 b1, nilOf nk (rd C.pg.gl e x') = some a1 ∧ nilOf nk (rd C.pg.gl e y') = some b1 ∧ (a1 = true ∨ b1 = true) ∧ b = (a1 && b1) := by
    rcases eqD_nil hb with ⟨h1, h2⟩ | ⟨h1, h2⟩
    · exact ⟨true, b, h1, h2, .inl rfl, by simp⟩
    · exact ⟨b, true, h1, h2, .inr rfl, by simp⟩
  obtain ⟨a1, b1, h1, h2, h3, rfl⟩ := hcase
  have hu := nilV_of hdx h1
  have hv := nilV_of hdy h2
  have hr := run_eq_nil (P := P) (w := w) hn hu hv h3
  refine still s (v := .bool (if ng then !(a1 && b1) else (a1 && b1))) ?_ (.val _ rfl)
  cases ng
  · have := run_eqop (P := P) (w := w) (op := .eql) (.inl rfl) hc hu hv hr
    simp only [execOp, hop, Bool.false_eq_true, if_false, Sem.run_bind] at this ⊢
    rw [this]; rfl
  · have := run_eqop (P := P) (w := w) (op := .neq) (.inr rfl) hc hu hv hr
    simp only [execOp, hop, if_true, Sem.run_bind] at this ⊢
    rw [this]; rfl

theorem sound_mki {ty : TypeId} {x : Operand} {x' : X} (hop : o.op = .makeInterface ty x) (hx : X.of N x = some x') {td : TypeDesc} (hu : P.underlying ty = some td) (hni : ∀ ms, td ≠ .interface ms) : MSound P N o (.mki ty x') := by
  refine ⟨(by rw [hop]; rfl), fun C K h h' w e a t d hP s f hq => ?_⟩
  simp only [M.ev, Option.some.injEq, Prod.mk.injEq] at hq
  obtain ⟨rfl, rfl⟩ := hq
  refine still s (v := .iface ty (a.eval x)) ?_ (.iface _ _ _ (f.rd s hx))
  cases td <;> first | (simp [execOp, hop, Instr.makeInterface, run_underlying hu]; done) | exact absurd rfl (hni _)

def okZero : Value → Bool
  | .agg cs => cs.toList.all (·.oneCell')
  | v => v.oneCell'
theorem den_of {K : Ctx} {z : Value} (h : okZero z = true) : Den K z (D.of z) := by
  unfold D.of
  split
  · rename_i cs
    have := Den.agg (S := K) cs.toList _ (vals_den (by simpa [okZero] using h))
    simpa using this
  · exact .slnil _
  · rename_i h1 h2
    refine .val _ ?_
    unfold okZero at h
    split at h
    · exact absurd rfl (h1 _)
    · exact h

theorem sound_ta {xt ty : TypeId} {i : TypeInfo} {z : Value} {x : Operand} {x' : X} (hop : o.op = .typeAssert x xt ty true) (hx : X.of N x = some x') (hi : P.info? ty = some i) (hz : i.zero = some z) (hzo : okZero z = true) {td : TypeDesc} (hu : P.underlying ty = some td) (hni : ∀ ms, td ≠ .interface ms) : MSound P N o (.ta ty z x') := by
  refine ⟨(by rw [hop]; rfl), fun C K h h' w e a t d hP s f hq => ?_⟩
  have hd := f.rd s hx
  obtain ⟨v, hv⟩ : ∃ v, a.eval x = v := ⟨_, rfl⟩
  rw [hv] at hd
  have hzero : (zeroValue ty).run P w = .ok z w := by simp [zeroValue, typeInfo, hi, hz]
  simp only [M.ev] at hq
  split at hq <;> try (cases hq; done)
  · rename_i hr
    cases hq
    rw [hr] at hd
    have := hd.val_eq
    subst this
    refine still s (v := .tuple #[z, .bool false]) ?_ (.tup [z, .bool false] _ (.cons _ _ _ _ (den_of hzo) (.cons _ _ _ _ (.val _ rfl) .nil)))
    cases td <;> first | (simp [execOp, hop, hv, Instr.typeAssert, run_underlying hu, hzero]; done) | exact absurd rfl (hni _)
  · rename_i u d' hr
    rw [hr] at hd
    cases hd with
    | iface _ q _ hd' =>
      split at hq <;> cases hq
      · rename_i hut
        subst hut
        refine still s (v := .tuple #[q, .bool true]) ?_ (.tup [q, .bool true] _ (.cons _ _ _ _ hd' (.cons _ _ _ _ (.val _ rfl) .nil)))
        cases td <;> first | (simp [execOp, hop, hv, Instr.typeAssert, run_underlying hu]; done) | exact absurd rfl (hni _)
      · rename_i hut
        refine still s (v := .tuple #[z, .bool false]) ?_ (.tup [z, .bool false] _ (.cons _ _ _ _ (den_of hzo) (.cons _ _ _ _ (.val _ rfl) .nil)))
        cases td <;> first | (simp [execOp, hop, hv, Instr.typeAssert, run_underlying hu, hut, hzero]; done) | exact absurd rfl (hni _)

theorem sound_rng {ty : TypeId} {x : Operand} {x' : X} (hop : o.op = .range ty x) (hx : X.of N x = some x') (hu : P.underlying ty = some .string) : MSound P N o (.rng x') := by
  refine ⟨(by rw [hop]; rfl), fun C K h h' w e a t d hP s f hq => ?_⟩
  have hd := f.rd s hx
  simp only [M.ev] at hq
  split at hq <;> try (cases hq; done)
  rename_i st hr
  rw [hr] at hd
  have hv := hd.val_eq
  simp only [Option.map_eq_some_iff, Prod.mk.injEq] at hq
  obtain ⟨h2, ha, rfl, rfl⟩ := hq
  have hle := Ctx.at_le w.heap.size 0 (s.fresh t (alloc_some ha).1)
  obtain ⟨_, s'⟩ := s.new ha 0 (w' := w.alloc (.stringIter st 0)) ((Below.refl _ w).alloc (Nat.le_refl _) _) (World.alloc_heap_new w _) (show BlkRel C.ofc _ 0 _ (.iter st 0) from rfl)
  refine ⟨.pointer (some ⟨w.heap.size, 0, none⟩), _, _, .value _ _ ?_, hle, s', .ptr _ _ _ _ (K.at_same _ _ _)⟩
  simp [execOp, hop, hv, Instr.range, run_underlying hu, newObj, Sem.run]

theorem putObj_grown {w : World} {b : Nat} (o : Obj) : w.grownBy (w.putObj b o) (some b) := ⟨rfl, rfl, rfl, by simp, fun j _ hj => World.putObj_heap_other (fun x => hj (by rw [x]))⟩

theorem sound_nxt {x : Operand} {x' : X} (hop : o.op = .next x true) (hx : X.of N x = some x') : MSound P N o (.nxt x') := by
  refine ⟨(by rw [hop]; rfl), fun C K h h' w e a t d hP s f hq => ?_⟩
  have hd := f.rd s hx
  simp only [M.ev] at hq
  split at hq <;> try (cases hq; done)
  rename_i k hr
  rw [hr] at hd
  obtain ⟨b, n, hl, hv⟩ := hd.ptr_inv
  split at hq <;> try (cases hq; done)
  rename_i st pos hk
  obtain ⟨b', n', O, i1, i2, i3, i4, i5⟩ := s.live k _ hk
  rw [hl] at i1; cases i1
  have i4' : O = .stringIter st pos := i4
  subst i4'
  have hlt : b < w.heap.size := (Array.getElem?_eq_some_iff.1 i3).1
  have hget : (getObj b).run P w = .ok (.stringIter st pos) w := by simp [getObj, Sem.run, i3]
  split at hq
  · rename_i hp
    cases hq
    refine ⟨.tuple #[.bool true, goInt pos, .int .i32 (Utf8.decode st pos).1], w.putObj b (.stringIter st (pos + (Utf8.decode st pos).2)), K, .value _ _ ?_, .refl K, s.turn hk hl (putObj_grown _) (World.putObj_heap_same hlt) (show BlkRel C.ofc _ _ _ (.iter st _) from rfl), ?_⟩
    · have hset : (setObj b (.stringIter st (pos + (Utf8.decode st pos).2))).run P w = .ok () (w.putObj b (.stringIter st (pos + (Utf8.decode st pos).2))) := by simp [setObj, Sem.run, i3, World.putObj]
      simp [execOp, hop, hv, Instr.next, hget, hp, hset]
    · exact .tup [_, _, _] _ (.cons _ _ _ _ (.val _ rfl) (.cons _ _ _ _ (.val _ rfl) (.cons _ _ _ _ (.val _ rfl) .nil)))
  · rename_i hp
    cases hq
    refine still s (v := .tuple #[.bool false]) ?_ (.tup [_] _ (.cons _ _ _ _ (.val _ rfl) .nil))
    simp [execOp, hop, hv, Instr.next, hget, hp]

theorem sound_mkmc {ty : TypeId} {c : Operand} {c' : X} (hop : o.op = .makeMap ty (some c)) (hc : X.of N c = some c') {kt vt : TypeId} (hu : P.underlying ty = some (.map kt vt)) : MSound P N o (.mkmc c') := by
  refine ⟨(by rw [hop]; rfl), fun C K h h' w e a t d hP s f hq => ?_⟩
  have hdc := f.rd s hc
  simp only [M.ev] at hq
  split at hq <;> try (cases hq; done)
  rename_i k n hrc
  rw [hrc] at hdc
  have hcv := hdc.val_eq
  simp only [Option.map_eq_some_iff, Prod.mk.injEq] at hq
  obtain ⟨h2, ha, rfl, rfl⟩ := hq
  have hle := Ctx.at_le w.heap.size 0 (s.fresh t (alloc_some ha).1)
  obtain ⟨_, s'⟩ := s.new ha 0 (w' := w.alloc (.map #[] 0)) ((Below.refl _ w).alloc (Nat.le_refl _) _) (World.alloc_heap_new w _) (show BlkRel C.ofc _ 0 _ (.map []) from ⟨#[], 0, rfl, .nil⟩)
  refine ⟨.map (some w.heap.size), _, _, .value _ _ ?_, hle, s', .mapr _ _ _ (K.at_same _ _ _)⟩
  simp [execOp, hop, hcv, Instr.makeMap, underlying, hu, asInt, asIntOf, newObj, Sem.run]

theorem sound_mkm {ty : TypeId} (hop : o.op = .makeMap ty none) : MSound P N o .mkm := by
  refine ⟨(by rw [hop]; rfl), fun C K h h' w e a t d hP s f hq => ?_⟩
  simp only [M.ev, Option.map_eq_some_iff, Prod.mk.injEq] at hq
  obtain ⟨h2, ha, rfl, rfl⟩ := hq
  have hle := Ctx.at_le w.heap.size 0 (s.fresh t (alloc_some ha).1)
  obtain ⟨_, s'⟩ := s.new ha 0 (w' := w.alloc (.map #[] 0)) ((Below.refl _ w).alloc (Nat.le_refl _) _) (World.alloc_heap_new w _) (show BlkRel C.ofc _ 0 _ (.map []) from ⟨#[], 0, rfl, .nil⟩)
  refine ⟨.map (some w.heap.size), _, _, .value _ _ ?_, hle, s', .mapr _ _ _ (K.at_same _ _ _)⟩
  simp [execOp, hop, Instr.makeMap, newObj, Sem.run]

theorem cellEq_same {K : Ctx} {td : TypeDesc} {ck : CK} (hk : ckOf (some td) = some ck) {u v : Value} {x y : D} {b : Bool} (hu : Den K u x) (hv : Den K v y) (h : cellEq ck x y = some b) : Instr.sameNow td u v = some b := by
  unfold cellEq at h
  split at h <;> try (cases h; done)
  · split at h <;> cases h
    rename_i heq; subst heq
    have e1 := hu.val_eq; have e2 := hv.val_eq
    subst e1 e2
    cases td <;> simp_all [ckOf, Instr.sameNow]
  · cases h
    have e1 := hu.val_eq; have e2 := hv.val_eq
    subst e1 e2
    cases td <;> simp_all [ckOf, Instr.sameNow]
  · cases h
    have e1 := hu.val_eq; have e2 := hv.val_eq
    subst e1 e2
    cases td <;> simp_all [ckOf, Instr.sameNow]
theorem find_den {K : Ctx} {td : TypeDesc} {ck : CK} (hk : ckOf (some td) = some ck) {kv : Value} {k : D} (hd : Den K kv k) : ∀ (ents : List MapEntry) (es : List (D × D)) (i : Nat) (r : Option (Nat × D)), DenE K ents es → findD ck k es i = some r →
    (r = none ∧ Instr.findNow td kv ents i = some none) ∨ ∃ j v e d, r = some (i + j, d) ∧ Instr.findNow td kv ents i = some (some (i + j, v)) ∧ ents[j]? = some e ∧ v = e.val ∧ Den K v d ∧ es[j]?.map (·.2) = some d ∧ Instr.sameNow td kv e.key = some true
  | [], [], i, r, _, h => by simp only [findD, Option.some.injEq] at h; subst h; exact .inl ⟨rfl, rfl⟩
  | e :: ents, (j, v) :: es, i, r, hde, h => by
    cases hde with
    | cons _ _ _ _ _ h1 h2 h3 =>
      simp only [findD] at h
      split at h <;> try (cases h; done)
      · rename_i hc
        cases h
        have := cellEq_same hk hd h1 hc
        exact .inr ⟨0, e.val, e, v, rfl, by simp [Instr.findNow, this], rfl, rfl, h2, rfl, this⟩
      · rename_i hc
        have hs := cellEq_same hk hd h1 hc
        rcases find_den hk hd ents es (i + 1) r h3 h with ⟨rfl, h4⟩ | ⟨j', v', e', d', rfl, h4, h5, h6, h7, h8, h9⟩
        · exact .inl ⟨rfl, by simp [Instr.findNow, hs, h4]⟩
        · refine .inr ⟨j' + 1, v', e', d', ?_, ?_, by simpa using h5, h6, h7, by simpa using h8, h9⟩
          · congr 2; omega
          · simp only [Instr.findNow, hs, h4]; congr 3; omega
  | [], _ :: _, _, _, h, _ => by cases h
  | _ :: _, [], _, _, h, _ => by cases h

theorem run_checkKey' {w : World} {kt : TypeId} {td : TypeDesc} {ck : CK} (hd : P.underlying kt = some td) (hk : ckOf (some td) = some ck) (e : Bool) (n : Nat) (k : Value) : (Instr.checkKey e (n + 1) kt k).run P w = .ok () w := by
  unfold Instr.checkKey
  simp only [Sem.run_bind, run_underlying hd, Result.andThen_ok]
  cases td <;> simp [ckOf] at hk <;> rfl

theorem DenE.set {K : Ctx} : ∀ {ents : List MapEntry} {es : List (D × D)}, DenE K ents es → ∀ (j : Nat) (f : MapEntry → MapEntry) {k d : D}, (∀ e, ents[j]? = some e → Den K (f e).key k ∧ Den K (f e).val d) → DenE K (ents.modify j f) (es.set j (k, d))
  | [], [], _, j, f, k, d, _ => by simpa using DenE.nil
  | e :: ents, p :: es, h, 0, f, k, d, hf => by
    cases h with
    | cons _ _ _ _ _ h1 h2 h3 =>
      obtain ⟨a, b⟩ := hf e rfl
      simpa using DenE.cons _ _ _ _ _ a b h3
  | e :: ents, p :: es, h, j + 1, f, k, d, hf => by
    cases h with
    | cons _ _ _ _ _ h1 h2 h3 => simpa using DenE.cons _ _ _ _ _ h1 h2 (DenE.set h3 j f fun e' he' => hf e' (by simpa using he'))
  | [], _ :: _, h, _, _, _, _, _ => by cases h
  | _ :: _, [], h, _, _, _, _, _ => by cases h
theorem DenE.snoc {K : Ctx} : ∀ {ents : List MapEntry} {es : List (D × D)}, DenE K ents es → ∀ (e : MapEntry) {k d : D}, Den K e.key k → Den K e.val d → DenE K (ents ++ [e]) (es ++ [(k, d)])
  | [], [], _, e, k, d, h1, h2 => .cons _ _ _ _ _ h1 h2 .nil
  | _ :: _, _ :: _, h, e, k, d, h1, h2 => by
    cases h with
    | cons _ _ _ _ _ i1 i2 i3 => exact .cons _ _ _ _ _ i1 i2 (DenE.snoc i3 e h1 h2)
  | [], _ :: _, h, _, _, _, _, _ => by cases h
  | _ :: _, [], h, _, _, _, _, _ => by cases h

theorem sameNow_bits {td : TypeDesc} {u v : Value} (h : Instr.sameNow td u v = some true) (n : Nat) : Instr.sameBits n v u = true := by
  unfold Instr.sameNow at h
  split at h <;> try (cases h; done)
  · split at h <;> simp at h
    rename_i hk
    subst hk; subst h
    cases n <;> simp [Instr.sameBits]
  · simp only [Option.some.injEq, beq_toListBytes, beq_iff_eq] at h
    cases n <;> simp only [Instr.sameBits, beq_toListBytes, h, beq_self_eq_true]
  · simp at h; subst h; cases n <;> simp [Instr.sameBits]

theorem getObj_map {w : World} {r : Nat} {es : Array MapEntry} {clock : Nat} (hb : w.heap[r]? = some (.map es clock)) : (getObj r).run P w = .ok (.map es clock) w := by
  simp [getObj, Sem.run, hb]
theorem setObj_map {w : World} {r : Nat} {es : Array MapEntry} {clock : Nat} (o : Obj) (hb : w.heap[r]? = some (.map es clock)) : (setObj r o).run P w = .ok () (w.putObj r o) := by
  simp [setObj, Sem.run, hb, World.putObj]
theorem findKey_now {w : World} {kt : TypeId} {d : TypeDesc} {k : Value} {l : List MapEntry} {a : Option (Nat × Value)} (hd : P.underlying kt = some d) (h : Instr.findNow d k l 0 = some a) : (Instr.findKey kt k l).run P w = .ok a w := by
  simp [Instr.findKey, run_underlying hd, h]

theorem sound_upd {ty kt vt : TypeId} {td : TypeDesc} {ck : CK} {x k v : Operand} {x' k' v' : X} (hop : o.op = .mapUpdate ty x k v ∨ o.op = .insert ty x k v) (hx : X.of N x = some x') (hk : X.of N k = some k') (hv : X.of N v = some v')
    (hu : P.underlying ty = some (.map kt vt)) (hd : P.underlying kt = some td) (hck : ckOf (some td) = some ck) : MSound P N o (.upd ck x' k' v') := by
  refine ⟨(by rcases hop with x | x <;> rw [x] <;> rfl), fun C K h h' w e a t d hP s f hq => ?_⟩
  have hdx := f.rd s hx
  have hdk := f.rd s hk
  have hdv := f.rd s hv
  simp only [M.ev] at hq
  split at hq <;> try (cases hq; done)
  rename_i j hr
  rw [hr] at hdx
  obtain ⟨mv, hmv⟩ : ∃ v, a.eval x = v := ⟨_, rfl⟩
  rw [hmv] at hdx
  cases hdx with
  | mapr _ b n hl =>
    split at hq <;> try (cases hq; done)
    rename_i es hes
    obtain ⟨b', n', O, i1, i2, i3, ⟨ents, clock, rfl, hde⟩, i5⟩ := s.live j _ hes
    rw [hl] at i1; cases i1
    have hlt : b < w.heap.size := (Array.getElem?_eq_some_iff.1 i3).1
    have exec : ∀ w', (Instr.mapUpdate ty (.map (some b)) (a.eval k) (a.eval v)).run P w = .ok () w' → (execOp a.eval o).run P w = .ok .skip w' := fun w' hr => by
      rcases hop with hop | hop <;> simp [execOp, hop, hmv, hr]
    split at hq <;> try (cases hq; done)
    · rename_i i dd hf
      cases hq
      rcases find_den hck hdk _ _ 0 _ hde hf with ⟨h1, _⟩ | ⟨i', vv, ee, d', h1, h2, h3, h4, h5, h6, h7⟩
      · cases h1
      · simp only [Nat.zero_add, Option.some.injEq, Prod.mk.injEq] at h1
        obtain ⟨h1, rfl⟩ := h1
        subst h1
        rw [Nat.zero_add] at h2
        have hee : ents[i]? = some ee := by simpa using h3
        refine ⟨undef, w.putObj b (.map (ents.modify i fun e => { e with key := a.eval k, val := a.eval v }) clock), K, .skip _ (exec _ ?_), .refl K,
          s.turn hes hl (putObj_grown _) (World.putObj_heap_same hlt) (show BlkRel C.ofc _ _ _ (.map _) from ⟨_, clock, rfl, ?_⟩), .junk _⟩
        · simp [Instr.mapUpdate, run_underlying hu, getObj_map i3, run_checkKey' hd hck, findKey_now hd h2, hee, Instr.keyThatStays, sameNow_bits h7, setObj_map _ i3]
        · rw [Array.toList_modify]
          exact hde.set i _ fun e' _ => ⟨hdk, hdv⟩
    · rename_i hf
      cases hq
      rcases find_den hck hdk _ _ 0 _ hde hf with ⟨_, h2⟩ | ⟨i', vv, ee, d', h1, _⟩
      · refine ⟨undef, w.putObj b (.map (ents.push { key := a.eval k, val := a.eval v, born := clock }) (clock + 1)), K, .skip _ (exec _ ?_), .refl K,
          s.turn hes hl (putObj_grown _) (World.putObj_heap_same hlt) (show BlkRel C.ofc _ _ _ (.map _) from ⟨_, clock + 1, rfl, ?_⟩), .junk _⟩
        · simp [Instr.mapUpdate, run_underlying hu, getObj_map i3, run_checkKey' hd hck, findKey_now hd h2, setObj_map _ i3]
        · rw [Array.toList_push]
          exact hde.snoc _ hdk hdv
      · cases h1

theorem sound_lk {ty kt vt : TypeId} {td : TypeDesc} {ck : CK} {i : TypeInfo} {z : Value} {x k : Operand} {x' k' : X} {ok : Bool} (hop : o.op = .lookup ty x k ok) (hx : X.of N x = some x') (hk : X.of N k = some k')
    (hu : P.underlying ty = some (.map kt vt)) (hd : P.underlying kt = some td) (hck : ckOf (some td) = some ck) (hi : P.info? vt = some i) (hz : i.zero = some z) (hzo : okZero z = true) : MSound P N o (.lk ck z ok x' k') := by
  refine ⟨(by rw [hop]; rfl), fun C K h h' w e a t d hP s f hq => ?_⟩
  have hdx := f.rd s hx
  have hdk := f.rd s hk
  have hzero : (zeroValue vt).run P w = .ok z w := by simp [zeroValue, typeInfo, hi, hz]
  obtain ⟨mv, hmv⟩ : ∃ v, a.eval x = v := ⟨_, rfl⟩
  rw [hmv] at hdx
  simp only [M.ev] at hq
  split at hq <;> try (cases hq; done)
  rename_i es hes
  have hmap : ∃ ents : Array MapEntry, DenE K ents.toList es ∧ ((mv = .map none ∧ ents = #[]) ∨ ∃ b clock, mv = .map (some b) ∧ w.heap[b]? = some (.map ents clock)) := by
    unfold mapOf at hes
    split at hes <;> try (cases hes; done)
    · rename_i es' hr
      cases hes
      rw [hr] at hdx
      cases hdx with
      | map r ents clock _ ho hde => exact ⟨ents, hde, .inr ⟨r, clock, rfl, (s.objs _ _ ho).1⟩⟩
      | mapnil => exact ⟨#[], .nil, .inl ⟨rfl, rfl⟩⟩
    · rename_i hr
      cases hes
      rw [hr] at hdx
      exact ⟨#[], .nil, .inl ⟨hdx.val_eq, rfl⟩⟩
    · rename_i j hr
      rw [hr] at hdx
      split at hes <;> cases hes
      rename_i hj
      cases hdx with
      | mapr _ b n hl =>
        obtain ⟨b', n', O, i1, i2, i3, ⟨ents, clock, rfl, hde⟩, i5⟩ := s.live j _ hj
        rw [hl] at i1; cases i1
        exact ⟨ents, hde, .inr ⟨b, clock, rfl, i3⟩⟩
  obtain ⟨ents, hde, hform⟩ := hmap
  have exec : ∀ r v0 b0, Instr.findNow td (a.eval k) ents.toList 0 = some r → ((r = none ∧ v0 = z ∧ b0 = false) ∨ ∃ i, r = some (i, v0) ∧ b0 = true) → (execOp a.eval o).run P w = .ok (.value (if ok then .tuple #[v0, .bool b0] else v0)) w := fun r v0 b0 hf hc => by
    have hfk := findKey_now (P := P) (w := w) hd hf
    rcases hform with ⟨rfl, rfl⟩ | ⟨b, clock, rfl, i3⟩
    · rcases hc with ⟨rfl, rfl, rfl⟩ | ⟨i, rfl, rfl⟩
      · simp at hfk
        cases ok <;> simp [execOp, hop, hmv, Instr.lookup, run_underlying hu, run_checkKey' hd hck, hfk, hzero]
      · simp [Instr.findNow] at hf
    · rcases hc with ⟨rfl, rfl, rfl⟩ | ⟨i, rfl, rfl⟩
      · cases ok <;> simp [execOp, hop, hmv, Instr.lookup, run_underlying hu, getObj_map i3, run_checkKey' hd hck, hfk, hzero]
      · cases ok <;> simp [execOp, hop, hmv, Instr.lookup, run_underlying hu, getObj_map i3, run_checkKey' hd hck, hfk]
  split at hq <;> try (cases hq; done)
  · rename_i i0 dd hf
    cases hq
    rcases find_den hck hdk _ _ 0 _ hde hf with ⟨h1, _⟩ | ⟨i', vv, ee, d', h1, h2, h3, h4, h5, h6, h7⟩
    · cases h1
    · simp only [Option.some.injEq, Prod.mk.injEq] at h1
      obtain ⟨rfl, rfl⟩ := h1
      refine still s (exec _ vv true h2 (.inr ⟨_, rfl, rfl⟩)) ?_
      cases ok
      · exact h5
      · exact .tup [_, _] _ (.cons _ _ _ _ h5 (.cons _ _ _ _ (.val _ rfl) .nil))
  · rename_i hf
    cases hq
    rcases find_den hck hdk _ _ 0 _ hde hf with ⟨_, h2⟩ | ⟨i', vv, ee, d', h1, _⟩
    · refine still s (exec _ z false h2 (.inl ⟨rfl, rfl, rfl⟩)) ?_
      cases ok
      · exact den_of hzo
      · exact .tup [_, _] _ (.cons _ _ _ _ (den_of hzo) (.cons _ _ _ _ (.val _ rfl) .nil))
    · cases h1
end
end Go.Em
/- A run of an operation does what its small operation says: conversions of strings, complements, elements of arrays. -/
namespace Go.Em
open Go Go.RowKit

section
variable {P : Program} {N : Nat} {o : Oper}

theorem sound_cpl {t : TypeId} {x : Operand} {x' : X} (hop : o.op = .unOp .xor t x) (hx : X.of N x = some x') : MSound P N o (.cpl x') := by
  refine ⟨(by rw [hop]; rfl), fun C K h h' w e a t d hP s f hq => ?_⟩
  simp only [M.ev] at hq
  split at hq <;> try (cases hq; done)
  rename_i k n hb
  have h1 := f.rd s hx
  rw [hb] at h1
  simp only [Option.map_eq_some_iff, Prod.mk.injEq] at hq
  obtain ⟨r, hr, rfl, rfl⟩ := hq
  refine still s (v := r) ?_ (.val _ (one_of_ans hr))
  have hp : Op.unary .xor (.int k n) = .pure r := by
    unfold ans at hr
    split at hr <;> try (cases hr; done)
    rename_i v hv
    split at hr <;> cases hr
    exact hv
  simp [execOp, hop, h1.val_eq, hp, Sem.run]

theorem sound_ixa {ty et : TypeId} {m : Nat} {ag : Bool} {sz : Nat} {x i : Operand} {x' i' : X} (hop : o.op = .index ty x i) (hx : X.of N x = some x') (hi : X.of N i = some i') (hu : P.underlying ty = some (.array m et)) (hs : shapeOf P et = some (ag, sz)) : MSound P N o (.ixa ag sz m x' i') := by
  refine ⟨(by rw [hop]; rfl), fun C K h h' w e a t d hP s f hq => ?_⟩
  have hden := f.rd s hx
  have hdi := f.rd s hi
  simp only [M.ev] at hq
  split at hq <;> try cases hq
  rename_i cs kd n hr hri
  split at hq <;> try cases hq
  rename_i hc
  obtain ⟨h0, h1, hle⟩ := hc
  rw [hri] at hdi
  have hiv := hdi.val_eq
  obtain ⟨u0, hu0⟩ : ∃ v, a.eval x = v := ⟨_, rfl⟩
  rw [hr, hu0] at hden
  cases hden with
  | agg vs _ hdl =>
    have hlen := hdl.length
    cases ag with
    | true =>
      refine still s (v := .agg ((vs.drop (n.toNat * sz)).take sz).toArray) ?_ (.agg _ _ ((hdl.drop _).take _))
      simp [execOp, hop, hu0, hiv, Instr.index, asIntOf, run_underlying hu, h0, h1, part, run_isAgg hs, run_size hs]
    | false =>
      have hm := shape_one hs
      subst hm
      obtain ⟨v, hv, hdv⟩ := getD_one hdl (show n.toNat * 1 < cs.length by omega)
      refine still s (v := v) ?_ (by simpa using hdv)
      have hv' : vs[n.toNat]? = some v := by simpa using hv
      simp [execOp, hop, hu0, hiv, Instr.index, asIntOf, run_underlying hu, h0, h1, part, run_isAgg hs, run_size hs, hv']

theorem Sim.news {C : Cx} {K : Ctx} {h : Heap} {w w' : World} (s : Sim C K h w) (us : List Value) (hw : Below C.w0.heap.size w w') (hb : ∀ b, b < w.heap.size → w'.heap[b]? = w.heap[b]?) (hsz : w.heap.size < w'.heap.size)
    (hc : ∀ i u, us[i]? = some u → w'.cell? ⟨w.heap.size, i, none⟩ = some u) : ∃ K', K.le K' ∧ Sim C K' h w' ∧ ∀ i u, us[i]? = some u → K'.cell w.heap.size i = some u := by
  let K' : Ctx := { K with cell := fun b o => if b = w.heap.size then us[o]? else K.cell b o }
  have old : ∀ b o v, K.cell b o = some v → K'.cell b o = some v := fun b o v x => by
    have := (s.cells _ _ _ x).1
    show (if b = w.heap.size then us[o]? else K.cell b o) = some v
    rw [if_neg (by omega)]; exact x
  have hle : K.le K' := ⟨old, fun _ _ x => x, fun _ _ x => x⟩
  have hcell : ∀ b o v, K'.cell b o = some v → (b = w.heap.size ∧ us[o]? = some v) ∨ (b < w.heap.size ∧ K.cell b o = some v) := fun b o v x => by
    have x' : (if b = w.heap.size then us[o]? else K.cell b o) = some v := x
    by_cases hbb : b = w.heap.size
    · rw [if_pos hbb] at x'; exact .inl ⟨hbb, x'⟩
    · rw [if_neg hbb] at x'; exact .inr ⟨(s.cells _ _ _ x').1, x'⟩
  have same : ∀ b o, b < w.heap.size → w'.cell? ⟨b, o, none⟩ = w.cell? ⟨b, o, none⟩ := fun b o hlt => by
    simp only [World.cell?, hb b hlt]
  have hsize : C.w0.heap.size ≤ w.heap.size := s.below.size
  refine ⟨K', hle, ⟨⟨s.ext.le.trans hle.lep, fun b o v x hlt => ?_, fun b o x hlt => s.ext.obj b o x hlt⟩, fun g cs x => (s.glob g cs x).mono hle, s.below.trans hw, fun b o v x => ?_, fun b o x => ?_, fun k B x => ?_, s.inj, s.fresh, s.froz_mono hle, fun k cs x => ?_, s.vj⟩, fun i u hu => ?_⟩
  · rcases hcell b o v x with ⟨y, _⟩ | ⟨_, y⟩
    · omega
    · exact s.ext.cell b o v y hlt
  · rcases hcell b o v x with ⟨rfl, y⟩ | ⟨y, z⟩
    · exact ⟨hsz, hc o v y⟩
    · exact ⟨by omega, by rw [same b o y]; exact (s.cells _ _ _ z).2⟩
  · obtain ⟨y, z⟩ := s.objs b o x
    have : b < w.heap.size := (Array.getElem?_eq_some_iff.1 y).1
    exact ⟨by rw [hb b this]; exact y, z⟩
  · obtain ⟨b, n, O, i1, i2, i3, i4, i5, i6⟩ := s.live k B x
    have hlt : b < w.heap.size := (Array.getElem?_eq_some_iff.1 i3).1
    refine ⟨b, n, O, i1, i2, by rw [hb b hlt]; exact i3, i4.mono hle, fun o => ?_, i6⟩
    show (if b = w.heap.size then us[o]? else K.cell b o) = none
    rw [if_neg (by omega)]; exact i5 o
  · obtain ⟨b, n, us', vs, ty, i1, i2, i3, i4, i5, i6, i7, i8, i9⟩ := s.vw k cs x
    have hlt : b < w.heap.size := (Array.getElem?_eq_some_iff.1 i3).1
    refine ⟨b, n, us', vs, ty, i1, i2, by rw [hb b hlt]; exact i3, i4.mono hle, i5, i6, fun o => ?_, i8, i9⟩
    show (if b = w.heap.size then us[o]? else K.cell b o) = none
    rw [if_neg (by omega)]; exact i7 o
  · show (if w.heap.size = w.heap.size then us[i]? else _) = some u
    rw [if_pos rfl]; exact hu

theorem sound_s2b {u t et : TypeId} {tu : TypeDesc} {x : Operand} {x' : X} (hop : o.op = .convert u t x) (hx : X.of N x = some x') (hs : P.underlying u = some tu) (ht : P.underlying t = some (.slice et)) (he : P.underlying et = some (.int .u8)) : MSound P N o (.s2b et x') := by
  refine ⟨(by rw [hop]; rfl), fun C K h h' w e a t0 d hP s f hq => ?_⟩
  simp only [M.ev] at hq
  split at hq <;> try (cases hq; done)
  rename_i st hb
  split at hq <;> try (cases hq; done)
  rename_i hmax
  cases hq
  have h1 := f.rd s hx
  rw [hb] at h1
  have hrun := Lib.run_convert_string_bytes (P := P) w u t et st hs ht he
  let us : List Value := st.data.toList.map fun b => .int .u8 b.toNat
  have hul : us.length = st.size := by simp [us]
  have hsize := Lib.bytesWorld_size w et st
  obtain ⟨K', hle, hs', hk⟩ := s.news (w' := Lib.bytesWorld w et st) us ⟨by simp [Lib.bytesWorld, World.freeze, World.alloc, World.drew, -World.alloc_eq, -World.drew_eq], by simp [Lib.bytesWorld, World.freeze, World.alloc, World.drew, -World.alloc_eq, -World.drew_eq], by simp [Lib.bytesWorld, World.freeze, World.alloc, World.drew, -World.alloc_eq, -World.drew_eq], by omega, fun j hj => Lib.bytesWorld_at_old w et st j (Nat.lt_of_lt_of_le hj s.below.size)⟩
    (fun b hlt => Lib.bytesWorld_at_old w et st b hlt) (by omega) (fun i u hu => by
      have hlt : i < st.size := by rw [← hul]; exact (List.getElem?_eq_some_iff.1 hu).1
      rw [Lib.bytesWorld_cell w et st i hlt, ← hu]
      have hlt' : i < st.data.toList.length := by simpa using hlt
      simp only [us, List.getElem?_map, List.getElem?_eq_getElem hlt', Option.map_some, List.getD_eq_getElem?_getD, Option.getD_some])
  have hbl : (bytesD st).length = st.size := by simp [bytesD]
  have hcells : ∀ l : List D, (∀ d, d ∈ l → d.cells = [d]) → l.flatMap D.cells = l := fun l hl => by
    induction l with
    | nil => rfl
    | cons d l ih => rw [List.flatMap_cons, hl d (by simp), ih fun d hd => hl d (by simp [hd])]; rfl
  have hone : ∀ d, d ∈ bytesD st → d.cells = [d] := fun d hd => by
    obtain ⟨b, _, rfl⟩ := List.mem_map.1 hd; rfl
  refine ⟨.slice (some ⟨w.heap.size, 0, none⟩) st.size (grownCap w st.size 0 et), _, K', .value _ _ (by simp [execOp, hop, h1.val_eq, hrun]), hle, hs', ?_⟩
  have := Den.sl (S := K') w.heap.size 0 (grownCap w st.size 0 et) false 1 (bytesD st) us (fun x => by cases x) (by rw [hbl]; exact grownCap_ge _ _ _ _) (grownCap_le_maxLen _ _ _ _ hmax) (fun e he => by rw [hone e he]; rfl) (fun i v hi => by rw [Nat.zero_add]; exact hk i v hi) (List.all_eq_true.2 fun v hv => by obtain ⟨b, _, rfl⟩ := List.mem_map.1 hv; rfl)
    (by rw [hcells _ hone]
        have : bytesD st = us.map .val := by simp [bytesD, us]
        rw [this]
        exact vals_den (List.all_eq_true.2 fun u hu => by obtain ⟨_, _, rfl⟩ := List.mem_map.1 hu; rfl))
  rwa [hbl] at this

theorem unbytes_spec {K : Ctx} : ∀ (us : List Value) (ds : List D) (l : List Int), DenL K us ds → unbytes ds = some l → us = l.map (.int .u8)
  | _, _, l, .nil, h => by simp only [unbytes, Option.some.injEq] at h; subst h; rfl
  | _, _, l, .cons v d us ds h1 h2, h => by
    unfold unbytes at h
    split at h <;> try (cases h; done)
    · rename_i hh; cases hh
    · rename_i n l' hh
      cases hh
      simp only [Option.map_eq_some_iff] at h
      obtain ⟨r, hr, rfl⟩ := h
      rw [unbytes_spec us ds r h2 hr, h1.val_eq]
      rfl

theorem sound_b2s {u t et : TypeId} {x : Operand} {x' : X} (hop : o.op = .convert u t x) (hx : X.of N x = some x') (hu : P.underlying u = some (.slice et)) (he : P.underlying et = some (.int .u8)) (ht : P.underlying t = some .string) : MSound P N o (.b2s x') := by
  refine ⟨(by rw [hop]; rfl), fun C K h h' w e a t0 d hP s f hq => ?_⟩
  have hden := (f.rd s hx).wk
  simp only [M.ev] at hq
  split at hq <;> try (cases hq; done)
  rename_i hne
  split at hq <;> try (cases hq; done)
  rename_i m ds hsrc
  simp only [Option.map_eq_some_iff, Prod.mk.injEq] at hq
  obtain ⟨l, hl, rfl, rfl⟩ := hq
  obtain ⟨v, hv⟩ : ∃ v, a.eval x = v := ⟨_, rfl⟩
  rw [hv] at hden
  obtain ⟨news, hS, hnd⟩ := src_den (P := P) (tx := u) s (.inl ⟨et, hu⟩) hden hsrc
  have hn := unbytes_spec news ds l hnd hl
  have hm1 : ∀ (b : Option Addr) (n cap : Nat), v = .slice b n cap → n = m := fun b n cap hvv => by
    have := hS.len w
    rw [hvv] at this
    simpa [Builtin.lenOf] using this
  have some_ : ∀ (b : Addr) (n cap : Nat), v = .slice (some b) n cap → (execOp a.eval o).run P w = .ok (.value (.string (l.foldl (fun r n => r.push (UInt8.ofNat n.toNat)) ByteArray.empty))) w := fun b n cap hvv => by
    have hnm := hm1 _ _ _ hvv
    have hc := hS.cells
    rw [hvv] at hc
    simp only [Builtin.firstCells, Nat.mul_one] at hc
    rw [hn, ← hnm] at hc
    have := run_bytesToString (P := P) w b n cap l hc
    rw [← run_convert_bytes_string w u t et (some b) n cap hu he ht] at this
    simp [execOp, hop, hv, hvv, this]
  have nil_ : v = .slice none 0 0 → (execOp a.eval o).run P w = .ok (.value (.string (l.foldl (fun r n => r.push (UInt8.ofNat n.toNat)) ByteArray.empty))) w := fun hvv => by
    have hnm := hm1 _ _ _ hvv
    have hl0 : l = [] := by
      have := hS.newsLen
      rw [hn, ← hnm] at this
      exact List.eq_nil_of_length_eq_zero (by simpa using this)
    subst hl0
    have := run_convert_bytes_string (P := P) w u t et none 0 0 hu he ht
    simp [execOp, hop, hv, hvv, this, Conv.bytesToString]
  have run : (execOp a.eval o).run P w = .ok (.value (.string (l.foldl (fun r n => r.push (UInt8.ofNat n.toNat)) ByteArray.empty))) w := by
    generalize (rd C.pg.gl e x').wk = y at *
    unfold src at hsrc
    split at hsrc <;> try (cases hsrc; done)
    · cases hden with
      | slnil _ => exact nil_ rfl
      | slw _ _ _ _ _ => exact some_ _ _ _ rfl
      | sl b o cap _ sz' _ us hz hn hm hs' hcl hone hdl => exact some_ _ _ _ rfl
    · cases hden with
      | slr _ _ _ _ b mm cap _ hl _ _ _ _ _ => exact some_ _ _ _ rfl
    · exact (hne _ rfl).elim
  exact still s (v := .string _) run (.val _ rfl)
end
end Go.Em
