/- How small code is read off a function's code. -/
import Derived.Test.YtkbamkdgiglljaaGreatEmI
import Derived.Test.YtkbamkdgiglljaaGreatEmMa
import Derived.Test.YtkbamkdgiglljaaGreatEmDa
import Derived.Test.YtkbamkdgiglljaaGreatEmMa
import Derived.Test.YtkbamkdgiglljaaGreatEmL
import Derived.RangeFuncNested
import Derived.RangeFuncLeaves
import Derived.RecoverIn
import Derived.LoopNIn
import Derived.TacticsIn
import Derived.Laws.Externs
namespace Go.Em
open Go Go.RowKit

abbrev DM (P : Program) (N : Nat) (o : Oper) := Option { m : M // MSound P N o m }

theorem arr1 {α : Type} {x : Array α} {a : α} (h : x.toList = [a]) : x = #[a] := by
  cases x; simp at h; subst h; rfl
theorem arr2 {α : Type} {x : Array α} {a b : α} (h : x.toList = [a, b]) : x = #[a, b] := by
  cases x; simp at h; subst h; rfl
theorem call_eq {c : Call} {b : Builtin} {as : Array Operand} {ts : Array TypeId} (h1 : c.callee = .builtin b) (h2 : c.args = as) (h3 : c.argTypes = ts) : c = { callee := .builtin b, args := as, argTypes := ts } := by
  cases c; simp_all

section
variable (P : Program) (N : Nat) (o : Oper)

def decEq (ng : Bool) (ty ty' : TypeId) (x y : Operand) (hop : o.op = .binOp (if ng then .neq else .eql) ty x y ty') : DM P N o :=
  match hx : X.of N x, hy : X.of N y with
  | some x', some y' =>
    match hu : P.underlying ty with
    | some .bool => some ⟨_, sound_eqb hop hx hy hu⟩
    | some (.int _) => some ⟨_, sound_bin hop hx hy⟩
    | some .string => some ⟨_, sound_bin hop hx hy⟩
    | some (.struct fs) =>
      if h1 : P.stoodInHeld ty = false then
        if h2 : P.eqGuardType P.depth ty = false then
          match hk : eqTy P 0 (P.fieldsOf ty).toList with
          | some ks => some ⟨_, sound_eqc hop hx hy (by rw [hu]; simp [Program.fieldsOf, hu]) h1 h2 hk⟩
          | none => match hk2 : eqTy2 P 0 (P.fieldsOf ty).toList with
            | some ks => some ⟨_, sound_eqc2 hop hx hy (by rw [hu]; simp [Program.fieldsOf, hu]) h1 h2 hk2⟩
            | none => none
        else none
      else none
    | some (.array n et) =>
      match hu2 : P.underlying et with
      | some (.struct fs) =>
        if h1 : P.stoodInHeld et = false then
          if h2 : P.eqGuardType P.depth ty = false then
            match hk : eqTy P 0 (P.fieldsOf et).toList with
            | some ks => if hc : P.cellsOf et = ks.length then some ⟨_, sound_eqa hop hx hy hu (by rw [hu2]; simp [Program.fieldsOf, hu2]) h1 h2 hk hc⟩ else none
            | none => none
          else none
        else none
      | _ => none
    | _ =>
      match hn : nkOf (P.underlying ty) with
      | some nk => if hc : (isNilC x || isNilC y) = true then some ⟨_, sound_eqn hop hx hy hn hc⟩ else none
      | none => none
  | _, _ => none

def decIndexAddr (ty : TypeId) (x i : Operand) (hop : o.op = .indexAddr ty x i) : DM P N o :=
  match hx : X.of N x, hi : X.of N i with
  | some _, some _ =>
    match hu : P.underlying ty with
    | some (.slice et) => match hj : P.info? et with
      | some _ => some ⟨_, sound_ias hop hx hi hu hj⟩
      | none => none
    | some (.array _ et) => match hj : P.info? et with
      | some _ => some ⟨_, sound_iaa hop hx hi hu hj⟩
      | none => none
    | _ => none
  | _, _ => none

def decSlice (ty : TypeId) (x : Operand) (lo hi mx : Option Operand) (hop : o.op = .slice ty x lo hi mx) : DM P N o :=
  match hx : X.of N x, hlo : optX N lo, hhi : optX N hi, hmx : optX N mx with
  | some _, some _, some _, some _ =>
    match hu : P.underlying ty with
    | some (.slice et) => match hj : P.info? et with
      | some _ => if hnm : mx.isSome = true → hi.isSome = true then some ⟨_, sound_slc hop hx hlo hhi hmx hnm hu hj⟩ else none
      | none => none
    | some .string => match mx, hop with
      | none, hop => some ⟨_, sound_sls hop hx hlo hhi hu⟩
      | _, _ => none
    | _ => none
  | _, _, _, _ => none

def decBuild (ty : TypeId) (parts : Array (Nat × Operand)) (hop : o.op = .build ty parts) : DM P N o :=
  match hi : P.info? ty with
  | some i => match hz : i.zero with
    | some z => if h1 : z.cells.toList.all (·.oneCell') = true then
      match hu : P.underlying ty with
      | some (.struct fs) => match hpl : placesOf P fs.toList with
        | some places => match hps : parts.toList.mapM (fun p => (places[p.1]?).bind fun q => (X.of N p.2).map fun x => (q.1, q.2, x)) with
          | some _ => some ⟨_, sound_bld hop hi hz h1 hu hpl hps⟩
          | none => none
        | none => none
      | some (.array _ et) => match hj : P.info? et with
        | some j => match hps : parts.toList.mapM (fun p => (X.of N p.2).map fun x => (p.1 * j.size, j.size, x)) with
          | some _ => some ⟨_, sound_blda hop hi hz h1 hu hj hps⟩
          | none => none
        | none => none
      | _ => none
      else none
    | none => none
  | none => none

def decBuildSlice (ty : TypeId) (len : Nat) (parts : Array (Nat × Operand)) (hop : o.op = .buildSlice ty len parts) : DM P N o :=
  match hu : P.underlying ty with
  | some (.slice et) => match hj : P.info? et with
    | some j => match hz : j.zero with
      | some z => match hps : parts.toList.mapM (fun p => (X.of N p.2).map fun x => (p.1, x)) with
        | some _ => if hc : len * j.size ≤ 16777216 ∧ 0 < j.size ∧ z.cells.size = j.size ∧ z.cells.toList.all (·.oneCell') = true then some ⟨_, sound_bs hop hps hc.1 hc.2.1 hu hj hz hc.2.2.1 hc.2.2.2⟩ else none
        | none => none
      | none => none
    | none => none
  | _ => none

def decBst (ty : TypeId) (len : Nat) (parts : Array (Nat × Operand)) (hop : o.op = .buildSlice ty len parts) : DM P N o :=
  match hu : P.underlying ty with
  | some (.slice et) => match hj : P.info? et with
    | some j => match hz : j.zero with
      | some z => match hps : parts.toList.mapM (fun p => (X.of N p.2).map fun x => (p.1, x)) with
        | some _ => if hc : len * j.size ≤ 16777216 ∧ 0 < j.size ∧ z.cells.size = j.size ∧ z.cells.toList.all (·.oneCell') = true then some ⟨_, sound_bst (sound_bs hop hps hc.1 hc.2.1 hu hj hz hc.2.2.1 hc.2.2.2)⟩ else none
        | none => none
      | none => none
    | none => none
  | _ => none
def decMakeSlice (ty : TypeId) (l c : Operand) (hop : o.op = .makeSlice ty l c) : DM P N o :=
  match hl : X.of N l, hc : X.of N c with
  | some _, some _ =>
    match hu : P.underlying ty with
    | some (.slice et) => match hj : P.info? et with
      | some j => match hz : j.zero with
        | some z => if h : 0 < j.bytes ∧ 0 < j.size ∧ z.cells.size = j.size ∧ z.cells.toList.all (·.oneCell') = true then some ⟨_, sound_mks hop hl hc hu hj hz h.1 h.2.1 h.2.2.1 h.2.2.2⟩ else none
        | none => none
      | none => none
    | _ => none
  | _, _ => none

def decLookup (ty : TypeId) (x k : Operand) (ok : Bool) (hop : o.op = .lookup ty x k ok) : DM P N o :=
  match hx : X.of N x, hk : X.of N k with
  | some _, some _ =>
    match hu : P.underlying ty with
    | some (.map kt vt) => match hd : P.underlying kt with
      | some td => match hck : ckOf (some td) with
        | some _ => match hi : P.info? vt with
          | some i => match hz : i.zero with
            | some z => if hzo : okZero z = true then some ⟨_, sound_lk hop hx hk hu hd hck hi hz hzo⟩ else none
            | none => none
          | none => none
        | none => none
      | none => none
    | _ => none
  | _, _ => none

def decUpd (ty : TypeId) (x k v : Operand) (hop : o.op = .mapUpdate ty x k v ∨ o.op = .insert ty x k v) : DM P N o :=
  match hx : X.of N x, hk : X.of N k, hv : X.of N v with
  | some _, some _, some _ =>
    match hu : P.underlying ty with
    | some (.map kt _) => match hd : P.underlying kt with
      | some td => match hck : ckOf (some td) with
        | some _ => some ⟨_, sound_upd hop hx hk hv hu hd hck⟩
        | none => none
      | none => none
    | _ => none
  | _, _, _ => none

def notIface : TypeDesc → Bool
  | .interface _ => false
  | _ => true
theorem notIface_spec {td : TypeDesc} (h : notIface td = true) : ∀ ms, td ≠ .interface ms := fun ms e => by subst e; cases h

def isSl : Option TypeDesc → Bool
  | some (.slice _) | some .string => true
  | _ => false
theorem isSl_spec {t : Option TypeDesc} (h : isSl t = true) : (∃ e', t = some (.slice e')) ∨ t = some .string := by
  unfold isSl at h
  split at h
  · exact .inl ⟨_, rfl⟩
  · exact .inr rfl
  · cases h

def decBuiltin (c : Call) (b : Builtin) (hop : o.op = .call c) (hb : c.callee = .builtin b) : DM P N o :=
  match b, hb with
  | .len, hb => match ha : c.args.toList, ht : c.argTypes.toList with
    | [x], [ty] => match hx : X.of N x with
      | some x' => match hu : P.underlying ty with
        | some (.slice et) => some ⟨_, sound_len (by rw [hop, call_eq hb (arr1 ha) (arr1 ht)]) hx hu⟩
        | some .string => some ⟨_, sound_lens (by rw [hop, call_eq hb (arr1 ha) (arr1 ht)]) hx hu⟩
        | _ => none
      | none => none
    | _, _ => none
  | .cap, hb => match ha : c.args.toList, ht : c.argTypes.toList with
    | [x], [ty] => match hx : X.of N x with
      | some x' => match hu : P.underlying ty with
        | some (.slice et) => some ⟨_, sound_cap (by rw [hop, call_eq hb (arr1 ha) (arr1 ht)]) hx hu⟩
        | _ => none
      | none => none
    | _, _ => none
  | .append, hb => match ha : c.args.toList, ht : c.argTypes.toList with
    | [x, y], [ty, tx] => match hx : X.of N x, hy : X.of N y with
      | some x', some y' => match hu : P.underlying ty with
        | some (.slice et) => if hk : isSl (P.underlying tx) = true then match hj : P.info? et with
          | some j => match hz : j.zero with
            | some z => if h : z.cells.size = j.size ∧ 0 < j.size then some ⟨_, sound_app (by rw [hop, call_eq hb (arr2 ha) (arr2 ht)]) hx hy hu (isSl_spec hk) hj hz h.1 h.2⟩ else none
            | none => none
          | none => none
          else match hki : P.underlying tx with
          | some (.int _) => match hj : P.info? et with
            | some j => match hz : j.zero with
              | some z => if h : z.cells.size = j.size ∧ 0 < j.size ∧ z.cells.toList.all (·.oneCell') = true then some ⟨_, sound_apz (by rw [hop, call_eq hb (arr2 ha) (arr2 ht)]) hx hy hu hki hj hz h.1 h.2.1 h.2.2⟩ else none
              | none => none
            | none => none
          | _ => none
        | _ => none
      | _, _ => none
    | _, _ => none
  | .copy, hb => match ha : c.args.toList, ht : c.argTypes.toList with
    | [x, y], [ty, tx] => match hx : X.of N x, hy : X.of N y with
      | some x', some y' => match hu : P.underlying ty with
        | some (.slice et) => match hj : P.info? et with
          | some j => some ⟨_, sound_cpy (by rw [hop, call_eq hb (arr2 ha) (arr2 ht)]) hx hy hu hj⟩
          | none => none
        | _ => none
      | _, _ => none
    | _, _ => none
  | .clear, hb => match ha : c.args.toList, ht : c.argTypes.toList with
    | [x], [ty] => match hx : X.of N x with
      | some x' => match hu : P.underlying ty with
        | some (.slice et) => match hj : P.info? et with
          | some j => match hz : j.zero with
            | some z => if h : z.cells.size = j.size ∧ 0 < j.size ∧ z.cells.toList.all (·.oneCell') = true then some ⟨_, sound_clr (by rw [hop, call_eq hb (arr1 ha) (arr1 ht)]) hx hu hj hz h.1 h.2.1 h.2.2⟩ else none
            | none => none
          | none => none
        | _ => none
      | none => none
    | _, _ => none
  | .min, hb => match ha : c.args.toList with
    | [x, y] => match hx : X.of N x, hy : X.of N y with
      | some x', some y' => some ⟨.mm false x' y', sound_mm (ts := c.argTypes) (mx := false) (by rw [hop, call_eq hb (arr2 ha) rfl]; rfl) hx hy⟩
      | _, _ => none
    | _ => none
  | .max, hb => match ha : c.args.toList with
    | [x, y] => match hx : X.of N x, hy : X.of N y with
      | some x', some y' => some ⟨.mm true x' y', sound_mm (ts := c.argTypes) (mx := true) (by rw [hop, call_eq hb (arr2 ha) rfl]; rfl) hx hy⟩
      | _, _ => none
    | _ => none
  | _, _ => none

def decM : DM P N o := match hop : o.op with
  | .move x => match hx : X.of N x with
    | some _ => some ⟨_, sound_mv (.inl hop) hx⟩
    | none => none
  | .assign x => match hx : X.of N x with
    | some _ => some ⟨_, sound_mv (.inr hop) hx⟩
    | none => none
  | .pick c x y => match hc : X.of N c, hx : X.of N x, hy : X.of N y with
    | some _, some _, some _ => some ⟨_, sound_pick hop hc hx hy⟩
    | _, _, _ => none
  | .binOp .eql ty x y ty' => decEq P N o false ty ty' x y hop
  | .binOp .neq ty x y ty' => decEq P N o true ty ty' x y hop
  | .binOp _ _ x y _ => match hx : X.of N x, hy : X.of N y with
    | some _, some _ => some ⟨_, sound_bin hop hx hy⟩
    | _, _ => none
  | .unOp .not _ x => match hx : X.of N x with
    | some _ => some ⟨_, sound_not hop hx⟩
    | none => none
  | .unOp .neg _ x => match hx : X.of N x with
    | some _ => some ⟨_, sound_neg hop hx⟩
    | none => none
  | .unOp .xor _ x => match hx : X.of N x with
    | some _ => some ⟨_, sound_cpl hop hx⟩
    | none => none
  | .convert u t x => match hx : X.of N x, hs : P.underlying u, ht : P.underlying t with
    | some _, some (.int _), some (.int _) => some ⟨_, sound_cvi hop hx hs ht⟩
    | some _, some (.slice et), some .string => match he : P.underlying et with
      | some (.int .u8) => some ⟨_, sound_b2s hop hx hs he ht⟩
      | _ => none
    | some _, some .string, some (.slice et) => match he : P.underlying et with
      | some (.int .u8) => some ⟨_, sound_s2b hop hx hs ht he⟩
      | _ => none
    | some _, some (.slice _), some (.slice et) => match he : P.underlying et with
      | some (.int .u8) => if hut : u = t then some ⟨_, sound_cbs (by rw [hop, hut]) hx ht he⟩ else none
      | _ => none
    | _, _, _ => none
  | .box t x => match hx : X.of N x, hi : P.info? t with
    | some _, some _ => some ⟨_, sound_box hop hx hi⟩
    | _, _ => none
  | .alloc t => match hi : P.info? t with
    | some i => match hz : i.zero with
      | some z => if h1 : z.cells.toList.all (·.oneCell') = true then some ⟨_, sound_alloc hop hi hz h1⟩ else none
      | none => none
    | none => none
  | .load t x => match hx : X.of N x, hs : shapeOf P t with
    | some _, some (_, _) => some ⟨_, sound_ld hop hx hs⟩
    | _, _ => none
  | .store t x y => match hx : X.of N x, hy : X.of N y, hi : P.info? t with
    | some _, some _, some _ => some ⟨_, sound_st hop hx hy hi⟩
    | _, _, _ => none
  | .nilCheck x => match hx : X.of N x with
    | some _ => some ⟨_, sound_nc hop hx⟩
    | none => none
  | .fieldAddr t x f => match hx : X.of N x, hu : P.underlying t with
    | some _, some (.struct fs) => match hf : fs[f]? with
      | some fl => match hi : P.info? fl.type with
        | some i => if h0 : i.size ≠ 0 then some ⟨_, sound_fa hop hx hu hf hi h0⟩ else none
        | none => none
      | none => none
    | _, _ => none
  | .indexAddr t x i => decIndexAddr P N o t x i hop
  | .field t x f => match hx : X.of N x, hu : P.underlying t with
    | some _, some (.struct fs) => match hf : fs[f]? with
      | some fl => match hs : shapeOf P fl.type with
        | some (_, _) => some ⟨_, sound_fd hop hx hu hf hs⟩
        | none => none
      | none => none
    | _, _ => none
  | .index t x i => match hx : X.of N x, hi : X.of N i, hu : P.underlying t with
    | some _, some _, some .string => some ⟨_, sound_ixs hop hx hi hu⟩
    | some _, some _, some (.array _ et) => match hs : shapeOf P et with
      | some (_, _) => some ⟨_, sound_ixa hop hx hi hu hs⟩
      | none => none
    | _, _, _ => none
  | .extract x _ => match hx : X.of N x with
    | some _ => some ⟨_, sound_ex hop hx⟩
    | none => none
  | .build t parts => decBuild P N o t parts hop
  | .buildSlice t l parts => decBuildSlice P N o t l parts hop
  | .makeSlice t l c => decMakeSlice P N o t l c hop
  | .slice t x lo hi mx => decSlice P N o t x lo hi mx hop
  | .makeFunc (.func _) fs caps => match hy : fs.toList.mapM (X.of N), hx : caps.toList.mapM (X.of N) with
    | some _, some _ => some ⟨_, sound_mkf hop hy hx⟩
    | _, _ => none
  | .makeMap _ none => some ⟨_, sound_mkm hop⟩
  | .makeMap t (some c) => match hc : X.of N c, hu : P.underlying t with
    | some _, some (.map _ _) => some ⟨_, sound_mkmc hop hc hu⟩
    | _, _ => none
  | .mapUpdate t x k v => decUpd P N o t x k v (.inl hop)
  | .insert t x k v => decUpd P N o t x k v (.inr hop)
  | .lookup t x k ok => decLookup P N o t x k ok hop
  | .range t x => match hx : X.of N x, hu : P.underlying t with
    | some _, some .string => some ⟨_, sound_rng hop hx hu⟩
    | _, _ => none
  | .next x true => match hx : X.of N x with
    | some _ => some ⟨_, sound_nxt hop hx⟩
    | none => none
  | .makeInterface t x => match hx : X.of N x, hu : P.underlying t with
    | some _, some td => if h : notIface td = true then some ⟨_, sound_mki hop hx hu (notIface_spec h)⟩ else none
    | _, _ => none
  | .typeAssert x _ t true => match hx : X.of N x, hi : P.info? t, hu : P.underlying t with
    | some _, some i, some td => match hz : i.zero with
      | some z => if h : notIface td = true ∧ okZero z = true then some ⟨_, sound_ta hop hx hi hz h.2 hu (notIface_spec h.1)⟩ else none
      | none => none
    | _, _, _ => none
  | .call c => match hb : c.callee with
    | .builtin b => decBuiltin P N o c b hop hb
    | _ => none
  | _ => none
end

def isIxb (P : Program) (f : FuncId) : Bool := match P.funcs[f]? with
  | some fn => fn.body.isNone && fn.name == "internal/bytealg.IndexByteString" && fn.origin == ""
  | none => false
def mkCall (P : Program) (f : FuncId) (xs : List X) : Cl := if isIxb P f = true then .ixb f xs else .fn f xs
def Cl.of (P : Program) (N : Nat) (o : Oper) : Option Cl := match o.op with
  | .call c => match c.callee with
    | .value (.func f) => if (P.funcs[f]?).isSome = true then (c.args.toList.mapM (X.of N)).map fun xs => mkCall P f xs else none
    | .value x => (X.of N x).bind fun x => (c.args.toList.mapM (X.of N)).map fun xs => .val o.guard.isSome x xs
    | .builtin .recover => some .rcv
    | _ => none
  | .defer c => match c.callee with
    | .value x => (X.of N x).bind fun x => (c.args.toList.mapM (X.of N)).map fun xs => .dfr x xs
    | _ => none
  | .panic x => (X.of N x).map .pan
  | _ => none

def guardOf (ops : Array Oper) (N : Nat) : Option (Nat × Bool) → Option (Option (Nat × Bool))
  | none => some none
  | some (j, want) => ((ops[j]?).bind (·.dst)).bind fun d => if d < N then some (some (d, want)) else none

def appsC (N n : Nat) : Code → Bool
  | .region _ ops _ => ops.toList.any fun o => match o.op with
    | .call c => (match c.callee, c.args.toList with
      | .builtin .append, x :: _ => (match X.of N x with
        | some (.s t) => decide (t < n) || ops.toList.any fun q => q.dst == some t && (match q.op with
          | .move y => (match X.of N y with
            | some (.s p) => decide (p < n)
            | _ => false)
          | _ => false)
        | _ => false)
      | _, _ => false)
    | _ => false
  | .seq a b => appsC N n a || appsC N n b
  | .cond _ a b => appsC N n a || appsC N n b
  | .block _ a => appsC N n a
  | .loop a => appsC N n a
  | .scope a => appsC N n a
  | .rangeFunc _ _ a b => appsC N n a || appsC N n b
  | _ => false
def appsF (P : Program) (f : FuncId) : Bool := match P.funcs[f]? with
  | some fn => (match fn.body with
    | some c => appsC fn.ntmps fn.params.size c
    | none => false)
  | none => false
def argOf (P : Program) (N : Nat) (ops : Array Oper) : Nat → Nat → Bool
  | 0, _ => false
  | n + 1, d => ops.toList.any fun o => match o.op with
    | .call c => (match c.callee with
      | .value (.func f) => !appsF P f && c.args.toList.any fun x => match X.of N x with
        | some (.s k) => k == d
        | _ => false
      | _ => false)
    | .build _ ps => ps.toList.any fun p => (match X.of N p.2 with
      | some (.s k) => k == d
      | _ => false)
    | .buildSlice _ _ ps => (match o.dst with
      | some t => (ps.toList.any fun p => (match X.of N p.2 with
        | some (.s k) => k == d
        | _ => false)) && argOf P N ops n t
      | none => false)
    | _ => false
def viewT (P : Program) (t : TypeId) : Bool := match P.info? t with
  | some i => i.str == "years.stand"
  | none => false
def viewC (P : Program) (ops : Array Oper) : Bool := ops.toList.any fun o => match o.op with
  | .call c => (match c.callee with
    | .value (.func f) => (match P.funcs[f]? with
      | some fn => fn.name == "(gyttja/years.scene).choose"
      | none => false)
    | _ => false)
  | _ => false
def decApl (P : Program) (N : Nat) (o : Oper) (c : Call) (hop : o.op = .call c) (hb : c.callee = .builtin .append) : DM P N o := match ha : c.args.toList, ht : c.argTypes.toList with
  | [x, y], [ty, tx] => match hx : X.of N x, hy : X.of N y with
    | some x', some y' => match hu : P.underlying ty with
      | some (.slice et) => if hk : isSl (P.underlying tx) = true then match hj : P.info? et with
        | some j => match hz : j.zero with
          | some z => if h : z.cells.size = j.size ∧ 0 < j.size then some ⟨_, sound_apl (by rw [hop, call_eq hb (arr2 ha) (arr2 ht)]) hx hy hu (isSl_spec hk) hj hz h.1 h.2⟩ else none
          | none => none
        | none => none
        else none
      | _ => none
    | _, _ => none
  | _, _ => none
def decLdv (P : Program) (N : Nat) (o : Oper) (t : TypeId) (x : Operand) (hop : o.op = .load t x) : DM P N o := match hx : X.of N x, hs : shapeOf P t with
  | some _, some (_, _) => some ⟨_, sound_ldv hop hx hs⟩
  | _, _ => none
def decMA (P : Program) (N : Nat) (ops : Array Oper) (o : Oper) : DM P N o := match hop : o.op with
  | .buildSlice t l parts => if (match o.dst with | some d => l != 0 && argOf P N ops 3 d | none => false) = true then decBst P N o t l parts hop else decM P N o
  | .call c => match hb : c.callee with
    | .builtin .append => if viewC P ops = true then decApl P N o c hop hb else decM P N o
    | _ => decM P N o
  | .load t x => if viewT P t = true then decLdv P N o t x hop else decM P N o
  | _ => decM P N o
def G.of (P : Program) (N : Nat) (ops : Array Oper) (o : Oper) : Option G := (guardOf ops N o.guard).bind fun g => match decMA P N ops o with
  | some m => some ⟨g, o.dst, .inl m.1⟩
  | none => (Cl.of P N o).map fun c => ⟨g, o.dst, .inr c⟩
def Gs.of (P : Program) (N : Nat) (ops : Array Oper) : List Oper → Option (List G)
  | [] => some []
  | o :: l => (G.of P N ops o).bind fun g => (Gs.of P N ops l).bind fun gs => some (g :: gs)

def depsOf (o : Oper) : List Nat := (o.after.toList.filter (Region.binds .any)).map (·.on)
def masks : List Oper → List Nat → List Nat
  | [], acc => acc
  | o :: l, acc => masks l (acc ++ [(depsOf o).foldl (fun b j => b ||| (1 <<< j) ||| acc.getD j 0) 0])
def X.roots (r : List (Nat × List HK)) : X → List HK
  | .s n => (r.lookup n).getD [.at n]
  | _ => []
def flatT (P : Program) : Nat → TypeId → Bool
  | 0, _ => false
  | n + 1, t => match P.underlying t with
    | some (.int _) | some .bool | some .string => true
    | some (.struct fs) => fs.all fun f => flatT P n f.type
    | some (.array _ e) => flatT P n e
    | _ => false
def flatF (P : Program) (f : FuncId) : Bool := match P.funcs[f]? with
  | some fn => fn.resultTypes.all (flatT P 4)
  | none => true
def noRes (P : Program) (f : FuncId) : Bool := match P.funcs[f]? with
  | some fn => fn.resultTypes.isEmpty
  | none => false
def deepSt (gs : List G) : Bool := gs.any fun g => match g.o with
  | .inl (.st _ (.s a) _) => gs.any fun g1 => g1.d == some a && (match g1.o with
    | .inl (.ias _ (.s b) _) => gs.any fun g2 => g2.d == some b && (match g2.o with
      | .inl (.ld _ _ (.s q)) => gs.any fun g3 => g3.d == some q && (match g3.o with
        | .inl (.ias ..) => true
        | _ => false)
      | _ => false)
    | _ => false)
  | _ => false
def deepC (P : Program) (N : Nat) : Code → Bool
  | .region _ ops _ => match Gs.of P N ops ops.toList with
    | some gs => deepSt gs
    | none => false
  | .seq a b => deepC P N a || deepC P N b
  | .cond _ a b => deepC P N a || deepC P N b
  | .block _ a => deepC P N a
  | .loop a => deepC P N a
  | .scope a => deepC P N a
  | _ => false
def deepF (P : Program) (f : FuncId) : Bool := match P.funcs[f]? with
  | some fn => (match fn.body with
    | some c => fn.name.startsWith "slices.Repeat[" || fn.name.startsWith "slices.Clone[[]gyttja/api." || fn.name.startsWith "slices.Clone[[]byte," || fn.name == "gyttja/office.copyOf" || fn.name == "gyttja/office.changed$1" || fn.name.startsWith "slices.DeleteFunc[[]gyttja/api." || fn.name == "(gyttja/years.scene).choose" || fn.name == "(gyttja/years.scene).allows" || deepC P fn.ntmps c
    | none => false)
  | none => false
def callTs (P : Program) (ds : List (Option Nat)) (r : List (Nat × List HK)) (f : FuncId) (args : List X) : List HK :=
  if flatF P f then [] else
    (args.flatMap (X.roots r)).filter fun k => match k with | .at s => !ds.contains (some s) | _ => true
def G.tsOf (P : Program) (fu : Bool) (ds : List (Option Nat)) (r : List (Nat × List HK)) (g : G) : Option (List HK) × List (Nat × List HK) := match g.o with
  | .inl m => let d := g.d.getD 0; match m with
    | .alloc .. | .box .. | .bs .. | .mks .. | .mkm | .mkmc .. => (some [.fr d], (d, [.fr d]) :: r)
    | .bst .. => (some [.fr d], (d, []) :: r)
    | .app _ _ _ x _ | .apl _ _ _ x _ => (some (.fr d :: x.roots r), (d, .fr d :: x.roots r) :: r)
    | .st _ x _ | .cpy _ x _ | .clr _ x => (some (x.roots r), r)
    | .fa x _ | .iaa _ _ x _ | .ias _ x _ | .nc x | .mv x => (some [], (d, x.roots r) :: r)
    | .slc _ x _ _ _ => (some [], (d, x.roots r) :: r)
    | m => (if m.kind = 2 then none else some [], r)
  | .inr (.fn f args) => (if noRes P f || (fu && deepF P f) then none else some (callTs P ds r f args), r)
  | .inr (.val ..) => (if fu then none else some [], r)
  | .inr _ => (none, r)
def tsAll (P : Program) (fu : Bool) (ds : List (Option Nat)) : List (Nat × List HK) → List G → List (Option (List HK))
  | _, [] => []
  | r, g :: l => (g.tsOf P fu ds r).1 :: tsAll P fu ds (g.tsOf P fu ds r).2 l
def G.light (g : G) : Bool := match g.o with
  | .inl m => decide (m.kind = 0)
  | .inr _ => false
def rdAll (P : Program) (ds : List (Option Nat)) : List (Nat × List HK) → List G → List (Option (List Nat))
  | _, [] => []
  | r, g :: l => (match g.o with
    | .inl (.ld _ _ x) => (x.roots r).mapM fun k => match k with | .at s => some s | _ => none
    | _ => none) :: rdAll P ds (g.tsOf P false ds r).2 l
def unord (ms : List Nat) (i j : Nat) : Bool := !(j = i || (ms.getD i 0).testBit j || (ms.getD j 0).testBit i)
def keepOf (fs : List Bool) (ms : List Nat) (tss : List (Option (List HK))) (ds : List (Option Nat)) (rs : List (Option (List Nat))) (i : Nat) : Option (List Nat) :=
  match rs.getD i none with
  | some ss =>
    let late := fun s => (List.range ds.length).any fun k => ds.getD k none == some s && unord ms i k
    let bad := (List.range tss.length).any fun j => unord ms i j && ((tss.getD j none).getD []).any fun k => match k with | .at s => late s | _ => false
    let bad := bad || (List.range tss.length).any fun j => unord ms i j && fs.getD j false
    if bad && ss.all (fun s => !ds.contains (some s)) && !ss.isEmpty then some ss else none
  | none => none
def addAll (l m : List HK) : List HK := m.foldl (fun l k => if l.contains k then l else l ++ [k]) l
def hsOf (fs : List Bool) (ms : List Nat) (tss : List (Option (List HK))) (ks : List (Option (List Nat))) (g : G) (i : Nat) : List HK :=
  if g.light then [] else match ks.getD i none with
  | some ss => ss.map .keep
  | none => (List.range tss.length).foldl (fun l j => if unord ms i j then
      (match ks.getD j none with
      | some ss => if ((tss.getD i none).getD []).isEmpty && !fs.getD i false then l else addAll l (ss.map .av)
      | none => addAll l ((tss.getD j none).getD [])) else l) []
def mkDraw (fs : List Bool) (ms : List Nat) (tss : List (Option (List HK))) (ks : List (Option (List Nat))) : Nat → List G → List DG
  | _, [] => []
  | i, g :: l => { g, ts := tss.getD i none, hs := hsOf fs ms tss ks g i, wt := ms.getD i 0 } :: mkDraw fs ms tss ks (i + 1) l
def drawOf (P : Program) (fu : Bool) (ops : List Oper) (gs : List G) : List DG :=
  let ms := masks ops []
  let ds := gs.map (·.d)
  let tss := tsAll P fu ds [] gs
  let rs := rdAll P ds [] gs
  let fs := gs.map fun g => fu && (match g.o with | .inr (.fn f _) => deepF P f | .inr (.val ..) => true | _ => false)
  mkDraw fs ms tss ((List.range gs.length).map (keepOf fs ms tss ds rs)) 0 gs
theorem mkDraw_g (fs : List Bool) (ms : List Nat) (tss : List (Option (List HK))) (ks : List (Option (List Nat))) : ∀ (l : List G) (i : Nat), (mkDraw fs ms tss ks i l).map (·.g) = l
  | [], _ => rfl
  | g :: l, i => by simp only [mkDraw, List.map_cons, mkDraw_g fs ms tss ks l]
theorem drawOf_g (P : Program) (fu : Bool) (ops : List Oper) (gs : List G) : (drawOf P fu ops gs).map (·.g) = gs := mkDraw_g _ _ _ _ _ _
def anyDeep (P : Program) (gs : List G) : Bool := gs.any fun g => match g.o with
  | .inr (.fn f _) => deepF P f
  | .inr (.val _ (.s y) _) => gs.any fun q => q.d == some y && (match q.o with
    | .inl (.ld ..) => true
    | _ => false)
  | _ => false
def dflt : DG := ⟨⟨none, none, .inr .rcv⟩, none, [], 0, false⟩
def okDraw (P : Program) (ops : List Oper) (xs : List DG) : Bool :=
  let ms := masks ops []
  let n := ops.length
  P.follows .mixedOrders &&
  (List.range n).all fun i =>
    let b := ms.getD i 0
    match ops[i]? with
    | none => false
    | some o => (depsOf o).all (fun d => decide (d < i)) && (xs.getD i dflt).wt == b && !(xs.getD i dflt).pn &&
      ((List.range i).all fun j => b.testBit j || (xs.getD i dflt).free (xs.getD j dflt)) &&
      ((List.range n).all fun j => !b.testBit j || (depsOf o).contains j || (depsOf o).any fun d => (ms.getD d 0).testBit j)

def Cd.of (P : Program) (N : Nat) : Code → Option Cd
  | .skip => some .skip
  | .label _ => some .skip
  | .region _ ops false => (Gs.of P N ops ops.toList).map .region
  | .region _ ops true => (Gs.of P N ops ops.toList).bind fun gs =>
    let xs := drawOf P (anyDeep P gs) ops.toList gs
    if okDraw P ops.toList xs = true then some (.draw xs) else
      let ys := drawOf P false ops.toList gs
      if okDraw P ops.toList ys = true then some (.draw ys) else none
  | .seq a b => (Cd.of P N a).bind fun a => (Cd.of P N b).bind fun b => some (.seq a b)
  | .cond x a b => (X.of N x).bind fun x => (Cd.of P N a).bind fun a => (Cd.of P N b).bind fun b => some (.cond x a b)
  | .block id c => (Cd.of P N c).map (.block id)
  | .loop c => (Cd.of P N c).map .loop
  | .scope c => (Cd.of P N c).map .scope
  | .exit id => some (.exit id)
  | .ret => some .ret
  | .rangeFunc g ps c d => (X.of N g).bind fun x => (Cd.of P N c).bind fun a => (Cd.of P N d).bind fun b => if ps.toList.all (fun p => decide (p < N)) = true then some (.rangeF x ps.toList a b) else none
  | _ => none
end Go.Em
/- A call in a heap of its own. -/
namespace Go.Em
open Go Go.RowKit

def Fe (P : Program) (r : Option Nat) : Fence := { fn := fun f => (P.funcs[f]?).isSome = true, depth := none, alive := false, round := r }

inductive ExRel (K : Ctx) : Ex → Exit → Prop
  | normal : ExRel K .normal .normal
  | exit (id : Nat) : ExRel K (.exit id) (.exit id)
  | ret : ExRel K .ret .ret
  | pan (d : D) (v : Value) : Den K v d → ExRel K (.pan d) (.panic [{ v, recovered := false }])
inductive OutRel (K : Ctx) : Out → Ending → Prop
  | ret (d : D) (v : Value) : Den K v d → OutRel K (.ret d) (.returned v)
  | pan (d : D) (v : Value) : Den K v d → OutRel K (.pan d) (.panicked [{ v, recovered := false }])

inductive DfRel (K : Ctx) : List Df → List Deferred → Prop
  | nil : DfRel K [] []
  | mark (k b n : Nat) (l : List Df) (ds : List Deferred) : K.loc k = some (b, n) → DfRel K l ds → DfRel K (.mark k :: l) ({ target := .collected b, args := #[] } :: ds)
  | call (f : FuncId) (us vs ws : List Value) (fs args caps : List D) (l : List Df) (ds : List Deferred) : DenL K us fs → DenL K vs args → DenL K ws caps → DfRel K l ds →
      DfRel K (.call (.fn (.func f) fs caps) args :: l) ({ target := .fn (.func f) ws.toArray, args := us.toArray ++ vs.toArray } :: ds)
theorem DfRel.mono {K K' : Ctx} (h : K.le K') {l : List Df} {ds : List Deferred} (r : DfRel K l ds) : DfRel K' l ds := by
  induction r with
  | nil => exact .nil
  | mark k b n l ds h1 _ ih => exact .mark k b n l ds (h.loc _ _ h1) ih
  | call f us vs ws fs args caps l ds h1 h2 h3 _ ih => exact .call f us vs ws fs args caps l ds (h1.mono h) (h2.mono h) (h3.mono h) ih

structure Fd (K : Ctx) (N : Nat) (s : St) (a : Act) : Prop where
  fr : Fr K N s.e a
  df : DfRel K s.df a.defers
theorem Fd.mono {K K' : Ctx} (h : K.le K') {N : Nat} {s : St} {a : Act} (f : Fd K N s a) : Fd K' N s a := ⟨f.fr.mono h, f.df.mono h⟩

def FnIs (P : Program) (f : FuncId) : Prop := ∃ fn, P.funcs[f]? = some fn ∧ fn.body ≠ none ∧ fn.name ≠ "runtime.NumGoroutine"
def lk (P : Program) : Lk := ⟨fun N c m => Cd.of P N c = some m, fun f => (P.funcs[f]?).isSome = true⟩
structure IsC (P : Program) (pg : Pg) (C : Cx) : Prop where
  hP : C.P = P
  hpg : C.pg = pg
  hofc : C.ofc = lk P
  gl : ∀ g cs, pg.gl g = some cs → D.pureL cs = true
  cd : ∀ f fc, pg.code f = some fc → (P.funcs[f]?).isSome = true
end Go.Em
/- A call in a heap of its own does what the evaluator says. -/
namespace Go.Em
open Go Go.RowKit

structure FnS (P : Program) (pg : Pg) (F : FuncId → List D → Heap → Option (Out × Heap)) : Prop where
  ok : ∀ f args h out h', F f args h = some (out, h') → FnIs P f ∧ ∀ (C : Cx) (K : Ctx) (w : World) (vs : List Value) (m : Nat), IsC P pg C → Sim C K h w → DenL K vs args →
    CallsIn (Fe P none) m P f vs.toArray w fun e w' => ∃ K', K.le K' ∧ Sim C K' h' w' ∧ OutRel K' out e

theorem frz_denL {C : Cx} {K : Ctx} {h : Heap} {w : World} {S : List Nat} (s : Sim C K h w) {n : Nat} : ∀ {l l' : List D} {ks : List Nat}, each (frz h n) l = some (l', ks) → (∀ k, k ∈ ks → k ∈ S) → ∀ {vs : List Value}, DenL K vs l → DenL (K.more h w S) vs l' ∧ D.pureL l' = true
  | [], l', ks, he, _, vs, hl => by
    simp only [each, Option.some.injEq, Prod.mk.injEq] at he
    obtain ⟨rfl, rfl⟩ := he
    cases hl; exact ⟨.nil, rfl⟩
  | d :: l, l', ks, he, hS, vs, hl => by
    simp only [each] at he
    split at he <;> cases he
    rename_i d' a l'' b h1 h2
    cases hl with
    | cons v _ vs _ i1 i2 =>
      obtain ⟨j1, j2⟩ := frz_den (S := S) s _ _ _ _ h1 (fun k hk => hS k (by simp [hk])) _ i1
      obtain ⟨k1, k2⟩ := frz_denL s h2 (fun k hk => hS k (by simp [hk])) i2
      exact ⟨.cons _ _ _ _ j1 k1, by simp only [D.pureL, j2, k2, Bool.and_self]⟩

theorem CallsIn.monoE {F : Fence} {n : Nat} {P : Program} {f : FuncId} {args : Array Value} {w : World} {R R' : Ending → World → Prop} (h : CallsIn F n P f args w R) (hr : ∀ e w', R e w' → R' e w') : CallsIn F n P f args w R' :=
  ⟨h.1, fun cs hroom => let ⟨e, w', fr, r, s⟩ := h.2 cs hroom; ⟨e, w', fr, hr _ _ r, s⟩⟩

section
variable {P : Program} {pg : Pg} {C : Cx} {K : Ctx} {h : Heap} {w : World}

theorem own_sim (hC : IsC P pg C) (s : Sim C K h w) : IsC P pg { C with w0 := w, K0 := { K with loc := fun _ => none } } ∧ Sim { C with w0 := w, K0 := { K with loc := fun _ => none } } { K with loc := fun _ => none } .empty w := by
  refine ⟨⟨hC.hP, hC.hpg, hC.hofc, hC.gl, hC.cd⟩, ⟨.refl _ _, fun g cs x => ?_, Below.refl _ _, s.cells, s.objs, fun k B x => by simp [Heap.empty, Heap.get, Heap.raw, Heap.look] at x, fun k k' B B' b n n' x => by simp [Heap.empty, Heap.get, Heap.raw, Heap.look] at x, fun k _ => rfl, fun k cs x => by simp [Heap.empty, Heap.fzd] at x, fun k cs x => by simp at x, fun k k' cs cs' b n n' x => by simp at x⟩⟩
  have hp : (D.eref cs).pure = true := hC.gl g cs (by rw [← hC.hpg]; exact x)
  exact Den.move (S := K) (S' := { K with loc := fun _ => none }) ⟨fun _ _ _ x => x, fun _ _ x => x⟩ (s.glob g cs x) hp

theorem own_back (s : Sim C K h w) {K1 : Ctx} {h1 : Heap} {w1 : World} (s1 : Sim { C with w0 := w, K0 := { K with loc := fun _ => none } } K1 h1 w1) :
    K.le { K1 with loc := K.loc } ∧ Sim C { K1 with loc := K.loc } h w1 := by
  have hE : Ext w.heap.size K { K1 with loc := K.loc } := ⟨⟨s1.ext.le.cell, s1.ext.le.obj⟩, s1.ext.cell, s1.ext.obj⟩
  exact ⟨⟨hE.le.cell, hE.le.obj, fun _ _ x => x⟩, s.grow s1.below hE rfl (fun b o v x _ => s1.cells b o v x) (fun b o x _ => s1.objs b o x)⟩

theorem pure_back (s : Sim C K h w) (ks : List Nat) {K1 : Ctx} {h1 : Heap} {w1 : World} (s1 : Sim { C with w0 := w, K0 := { K.more h w ks with loc := fun _ => none } } K1 h1 w1) {v : Value} {r r' : D} (hv : Den K1 v r) {ks1 : List Nat} (hf : frz h1 depth r = some (r', ks1)) :
    ∃ K', K.le K' ∧ Sim C K' (if ks.isEmpty || r'.flat then h else h.cool ks) w1 ∧ Den K' v r' := by
  obtain ⟨hd, hp⟩ := frz_den (S := ks1) s1 _ _ _ _ hf (fun _ x => x) _ hv
  by_cases hfl : r'.flat = true
  · rw [if_pos (by simp [hfl])]
    refine ⟨K, .refl K, s.grow s1.below (.refl _ _) rfl (fun b o v x hb => ?_) (fun b o x hb => ?_), hd.any hfl⟩
    · have := (s.cells b o v x).1; omega
    · have := (Array.getElem?_eq_some_iff.1 (s.objs b o x).1).1; omega
  · have hk : (if ks.isEmpty || r'.flat then h else h.cool ks) = h.cool ks := by
      cases ks with
      | nil => rfl
      | cons => simp [hfl]
    rw [hk]
    have s2 := s1.freeze ks1
    obtain ⟨i1, i2⟩ := own_back (s.coolS ks) s2
    exact ⟨_, more_le.trans i1, i2, Den.move (S := K1.more h1 w1 ks1) (S' := { K1.more h1 w1 ks1 with loc := (K.more h w ks).loc }) ⟨fun _ _ _ x => x, fun _ _ x => x⟩ hd hp⟩
end

theorem pure_ok {P : Program} {pg : Pg} {R : Rc} (hF : FnS P pg R.fn) {f : FuncId} {as : List D} {o : Out} (hp : pureCall R f as = some o) : FnIs P f ∧ ∀ (C : Cx) (K : Ctx) (h : Heap) (w : World) (vs : List Value) (m : Nat) (ks : List Nat), IsC P pg C → Sim C K h w → DenL (K.more h w ks) vs as → D.pureL as = true →
    CallsIn (Fe P none) m P f vs.toArray w fun e w' => ∃ K', K.le K' ∧ Sim C K' (if ks.isEmpty || o.d.flat then h else h.cool ks) w' ∧ OutRel K' o e := by
  unfold pureCall at hp
  split at hp <;> try (cases hp; done)
  · rename_i r h1 hr
    simp only [Option.map_eq_some_iff] at hp
    obtain ⟨⟨r', ks1⟩, hf, rfl⟩ := hp
    obtain ⟨i1, i2⟩ := hF.ok _ _ _ _ _ hr
    refine ⟨i1, fun C K h w vs m ks hC s hd1 hp1 => ?_⟩
    obtain ⟨hC', s'⟩ := own_sim hC (s.freeze ks)
    refine CallsIn.monoE (i2 _ _ w vs m hC' s' (DenL.move (S := K.more h w ks) (S' := { K.more h w ks with loc := fun _ => none }) ⟨fun _ _ _ x => x, fun _ _ x => x⟩ hd1 hp1)) ?_
    rintro e w1 ⟨K1, _, s1, ho⟩
    cases ho with
    | ret _ v hv =>
      obtain ⟨K', j1, j2, j3⟩ := pure_back s ks s1 hv hf
      exact ⟨K', j1, j2, .ret _ _ j3⟩
  · rename_i r h1 hr
    simp only [Option.map_eq_some_iff] at hp
    obtain ⟨⟨r', ks1⟩, hf, rfl⟩ := hp
    obtain ⟨i1, i2⟩ := hF.ok _ _ _ _ _ hr
    refine ⟨i1, fun C K h w vs m ks hC s hd1 hp1 => ?_⟩
    obtain ⟨hC', s'⟩ := own_sim hC (s.freeze ks)
    refine CallsIn.monoE (i2 _ _ w vs m hC' s' (DenL.move (S := K.more h w ks) (S' := { K.more h w ks with loc := fun _ => none }) ⟨fun _ _ _ x => x, fun _ _ x => x⟩ hd1 hp1)) ?_
    rintro e w1 ⟨K1, _, s1, ho⟩
    cases ho with
    | pan _ v hv =>
      obtain ⟨K', j1, j2, j3⟩ := pure_back s ks s1 hv hf
      exact ⟨K', j1, j2, .pan _ _ j3⟩
theorem Den.empty_or {K : Ctx} {v : Value} (h : Den K v (.sl false [])) : Den K v (.val (.slice none 0 0)) ∨ Den K v .sle := by
  cases h with
  | slnil _ => exact .inl (.val _ rfl)
  | sl b o cap z sz es us hz hn hm hs hc h1 k => exact .inr (.sle _ cap hm)
  | slw a cap _ _ hc => exact .inr (.sle a cap hc)
theorem split_ok {P : Program} {pg : Pg} {R : Rc} (hF : FnS P pg R.fn) {f : FuncId} {as : List D} {o : Out} (hp : splitNil R f as = some o) : FnIs P f ∧ ∀ (C : Cx) (K : Ctx) (h : Heap) (w : World) (vs : List Value) (m : Nat) (ks : List Nat), IsC P pg C → Sim C K h w → DenL (K.more h w ks) vs as → D.pureL as = true →
    CallsIn (Fe P none) m P f vs.toArray w fun e w' => ∃ K', K.le K' ∧ Sim C K' (if ks.isEmpty || o.d.flat then h else h.cool ks) w' ∧ OutRel K' o e := by
  unfold splitNil at hp
  split at hp <;> try (cases hp; done)
  split at hp <;> cases hp
  rename_i h1 h2
  obtain ⟨i1, i2⟩ := pure_ok hF h1
  obtain ⟨_, j2⟩ := pure_ok hF h2
  refine ⟨i1, fun C K h w vs m ks hC s hd1 _ => ?_⟩
  cases hd1 with
  | cons v _ vs _ a b =>
    cases b
    rcases a.empty_or with a | a
    · exact i2 C K h w _ m ks hC s (.cons _ _ _ _ a .nil) rfl
    · exact j2 C K h w _ m ks hC s (.cons _ _ _ _ a .nil) rfl
theorem agg_ok {P : Program} {pg : Pg} {R : Rc} (hF : FnS P pg R.fn) {f : FuncId} {as : List D} {o : Out} (hp : splitAgg R f as = some o) : FnIs P f ∧ ∀ (C : Cx) (K : Ctx) (h : Heap) (w : World) (vs : List Value) (m : Nat) (ks : List Nat), IsC P pg C → Sim C K h w → DenL (K.more h w ks) vs as → D.pureL as = true →
    CallsIn (Fe P none) m P f vs.toArray w fun e w' => ∃ K', K.le K' ∧ Sim C K' (if ks.isEmpty || o.d.flat then h else h.cool ks) w' ∧ OutRel K' o e := by
  unfold splitAgg at hp
  split at hp <;> try (cases hp; done)
  rename_i r as'
  split at hp <;> try (cases hp; done)
  rename_i a b h1 h2
  split at hp <;> cases hp
  rename_i he
  have hab : a = b := eqq_eq he
  subst hab
  obtain ⟨i1, i2⟩ := pure_ok hF h1
  obtain ⟨_, j2⟩ := pure_ok hF h2
  refine ⟨i1, fun C K h w vs m ks hC s hd1 hpu => ?_⟩
  cases hd1 with
  | cons v _ vs _ a b =>
    cases a with
    | agg us cs hu =>
      cases hu with
      | cons u _ us _ c d =>
        rcases c.empty_or with c | c
        · exact i2 C K h w _ m ks hC s (.cons _ _ _ _ (.agg _ _ (.cons _ _ _ _ c d)) b) (by simpa [D.pureL, D.pure] using hpu)
        · exact j2 C K h w _ m ks hC s (.cons _ _ _ _ (.agg _ _ (.cons _ _ _ _ c d)) b) (by simpa [D.pureL, D.pure] using hpu)
mutual
theorem alts_den {K : Ctx} : ∀ (d : D) (v : Value), Den K v d → d.pure = true → ∃ x, x ∈ alts d ∧ Den K v x ∧ x.pure = true
  | .agg cs, v, h, hp => by
    cases h with
    | agg us _ hu =>
      obtain ⟨x, h1, h2, h3⟩ := altsL_den cs us hu (by simpa only [D.pure] using hp)
      exact ⟨.agg x, by simp only [alts, List.mem_map]; exact ⟨x, h1, rfl⟩, .agg _ _ h2, by simpa only [D.pure] using h3⟩
  | .sl false [], v, h, _ => by
    rcases h.empty_or with a | a
    · exact ⟨_, by simp [alts], a, rfl⟩
    · exact ⟨.sle, by simp [alts], a, rfl⟩
  | .sl true es, v, h, hp => ⟨_, by simp [alts], h, hp⟩
  | .sl false (e :: es), v, h, hp => ⟨_, by simp [alts], h, hp⟩
  | .val _, v, h, hp => ⟨_, by simp [alts], h, hp⟩
  | .junk, v, h, hp => ⟨_, by simp [alts], h, hp⟩
  | .tup _, v, h, hp => ⟨_, by simp [alts], h, hp⟩
  | .eref _, v, h, hp => ⟨_, by simp [alts], h, hp⟩
  | .fn .., v, h, hp => ⟨_, by simp [alts], h, hp⟩
  | .map _, v, h, hp => ⟨_, by simp [alts], h, hp⟩
  | .iface .., v, h, hp => ⟨_, by simp [alts], h, hp⟩
  | .ptr .., v, h, hp => ⟨_, by simp [alts], h, hp⟩
  | .slr .., v, h, hp => ⟨_, by simp [alts], h, hp⟩
  | .mapr _, v, h, hp => ⟨_, by simp [alts], h, hp⟩
  | .yld _, v, h, hp => ⟨_, by simp [alts], h, hp⟩
  | .sle, v, h, hp => ⟨_, by simp [alts], h, hp⟩
theorem altsL_den {K : Ctx} : ∀ (l : List D) (vs : List Value), DenL K vs l → D.pureL l = true → ∃ x, x ∈ altsL l ∧ DenL K vs x ∧ D.pureL x = true
  | [], vs, h, _ => by
    cases h
    exact ⟨[], by simp [altsL], .nil, rfl⟩
  | d :: l, vs, h, hp => by
    simp only [D.pureL, Bool.and_eq_true] at hp
    cases h with
    | cons v _ vs _ a b =>
      obtain ⟨x, h1, h2, h3⟩ := alts_den d v a hp.1
      obtain ⟨y, k1, k2, k3⟩ := altsL_den l vs b hp.2
      refine ⟨x :: y, ?_, .cons _ _ _ _ h2 k2, by simp only [D.pureL, h3, k3, Bool.and_self]⟩
      simp only [altsL, List.mem_flatMap, List.mem_map]
      exact ⟨x, h1, y, k1, rfl⟩
end
theorem all_ok {P : Program} {pg : Pg} {R : Rc} (hF : FnS P pg R.fn) {f : FuncId} {as : List D} {o : Out} (hp : splitAll R f as = some o) : FnIs P f ∧ ∀ (C : Cx) (K : Ctx) (h : Heap) (w : World) (vs : List Value) (m : Nat) (ks : List Nat), IsC P pg C → Sim C K h w → DenL (K.more h w ks) vs as → D.pureL as = true →
    CallsIn (Fe P none) m P f vs.toArray w fun e w' => ∃ K', K.le K' ∧ Sim C K' (if ks.isEmpty || o.d.flat then h else h.cool ks) w' ∧ OutRel K' o e := by
  unfold splitAll at hp
  split at hp <;> try (cases hp; done)
  rename_i x y l hx
  split at hp <;> try (cases hp; done)
  rename_i a h1
  split at hp <;> cases hp
  rename_i he
  have hall : ∀ z, z ∈ altsL as → pureCall R f z = some (.ret a) := by
    intro z hz
    rw [hx, List.mem_cons] at hz
    rcases hz with rfl | hz
    · exact h1
    · have := List.all_eq_true.1 he z hz
      unfold sameRet at this
      split at this <;> try (cases this; done)
      rename_i b hb
      rw [hb, eqq_eq this]
  refine ⟨(pure_ok hF h1).1, fun C K h w vs m ks hC s hd1 hpu => ?_⟩
  obtain ⟨z, hz, hd, hq⟩ := altsL_den as vs hd1 hpu
  exact (pure_ok hF (hall z hz)).2 C K h w _ m ks hC s hd hq
theorem pureS_ok {P : Program} {pg : Pg} {R : Rc} (hF : FnS P pg R.fn) {f : FuncId} {as : List D} {o : Out} (hp : pureS R f as = some o) : FnIs P f ∧ ∀ (C : Cx) (K : Ctx) (h : Heap) (w : World) (vs : List Value) (m : Nat) (ks : List Nat), IsC P pg C → Sim C K h w → DenL (K.more h w ks) vs as → D.pureL as = true →
    CallsIn (Fe P none) m P f vs.toArray w fun e w' => ∃ K', K.le K' ∧ Sim C K' (if ks.isEmpty || o.d.flat then h else h.cool ks) w' ∧ OutRel K' o e := by
  rw [pureS_orS] at hp
  unfold orS at hp
  split at hp
  · rename_i h1
    cases hp
    exact pure_ok hF h1
  · split at hp
    · rename_i h1
      cases hp
      exact split_ok hF h1
    · split at hp
      · rename_i h1
        cases hp
        exact agg_ok hF h1
      · exact all_ok hF hp
theorem Den.full {K1 K' : Ctx} {v : Value} {k o m sz c : Nat} {d : D} (h1 : Den K1 v (.slr k o m sz (some c))) (h2 : Den K' v d) : Den K' v (fullD m c d) := by
  unfold fullD
  split
  · rename_i es
    split
    · rename_i hm
      subst hm
      cases h1 with
      | slr k o n sz b m' cap c' hb h1 h2' h3 h4 h5 =>
        cases h2 with
        | sl b2 o2 cap2 z sz2 es us hz hn hm hs hc h1' kk =>
          exact .sl _ _ _ true sz2 es us (fun _ => h5 _ rfl) hn hm hs hc h1' kk
        | slw a2 cap2 z hz hc => exact .slw _ _ true (fun _ => h5 _ rfl) hc
    · exact h2
  · exact h2
theorem pureT_ok {P : Program} {pg : Pg} {R : Rc} (hF : FnS P pg R.fn) {f : FuncId} {o : Out} (hp : pureT R f = some o) : FnIs P f ∧ ∀ (C : Cx) (K : Ctx) (h : Heap) (w : World) (m : Nat), IsC P pg C → Sim C K h w →
    CallsIn (Fe P none) m P f #[] w fun e w' => ∃ K', K.le K' ∧ Sim C K' h w' ∧ OutRel K' o e := by
  unfold pureT at hp
  split at hp
  · rename_i k o1 n sz c h1 hr
    simp only [Option.map_eq_some_iff] at hp
    obtain ⟨⟨r', ks1⟩, hf, rfl⟩ := hp
    obtain ⟨i1, i2⟩ := hF.ok _ _ _ _ _ hr
    refine ⟨i1, fun C K h w m hC s => ?_⟩
    obtain ⟨hC', s'⟩ := own_sim hC (s.freeze [])
    refine CallsIn.monoE (i2 _ _ w [] m hC' s' .nil) ?_
    rintro e w1 ⟨K1, _, s1, ho⟩
    cases ho with
    | ret _ v hv =>
      obtain ⟨K', j1, j2, j3⟩ := pure_back s [] s1 hv hf
      exact ⟨K', j1, by simpa using j2, .ret _ _ (Den.full hv j3)⟩
  · obtain ⟨i1, i2⟩ := pureS_ok hF hp
    refine ⟨i1, fun C K h w m hC s => ?_⟩
    have := i2 C K h w [] m [] hC s .nil rfl
    simpa using this
theorem call_ok {P : Program} {pg : Pg} {R : Rc} (hF : FnS P pg R.fn) : FnS P pg (call pg R) := by
  refine ⟨fun f args h out h' hc => ?_⟩
  unfold call at hc
  split at hc
  · split at hc
    · rename_i p hr
      cases hc
      exact hF.ok f args h out h' hr
    · simp only [Option.map_eq_some_iff, Prod.mk.injEq] at hc
      obtain ⟨o, hp, rfl, rfl⟩ := hc
      obtain ⟨i1, i2⟩ := split_ok hF hp
      refine ⟨i1, fun C K w vs m hC s hd => ?_⟩
      have hpu : D.pureL args = true := by
        unfold splitNil at hp
        split at hp <;> first | rfl | cases hp
      have := i2 C K h w vs m [] hC s (hd.mono more_le) hpu
      simpa using this
  · split at hc <;> try (cases hc; done)
    rename_i as ks he
    simp only [Option.map_eq_some_iff, Prod.mk.injEq] at hc
    obtain ⟨o, hp, rfl, rfl⟩ := hc
    cases args with
    | nil =>
      simp only [each, Option.some.injEq, Prod.mk.injEq] at he
      obtain ⟨rfl, rfl⟩ := he
      obtain ⟨i1, i2⟩ := pureT_ok hF hp
      refine ⟨i1, fun C K w vs m hC s hd => ?_⟩
      cases hd
      simpa using i2 C K h w m hC s
    | cons a args =>
    obtain ⟨i1, i2⟩ := pureS_ok hF hp
    refine ⟨i1, fun C K w vs m hC s hd => ?_⟩
    obtain ⟨hd1, hp1⟩ := frz_denL (S := ks) s he (fun _ x => x) hd
    exact i2 C K h w vs m ks hC s hd1 hp1
end Go.Em
/- Operations of a region, one behind the other. -/
namespace Go.Em
open Go Go.RowKit

def RndOk (K : Ctx) : Option Nat → Option Nat → Prop
  | none, none => True
  | some k, some b => ∃ n, K.loc k = some (b, n)
  | _, _ => False
theorem RndOk.mono {K K' : Ctx} (h : K.le K') {r rb : Option Nat} (x : RndOk K r rb) : RndOk K' r rb := by
  cases r <;> cases rb <;> first | exact x | (obtain ⟨n, hn⟩ := x; exact ⟨n, h.loc _ _ hn⟩)

def Post (C : Cx) (K : Ctx) (N : Nat) (x : Ex) (s' : St) (QQ : Exit → Act → World → Prop) : Prop :=
  ∀ (K' : Ctx) (a' : Act) (w' : World) (ex : Exit), K.le K' → Sim C K' s'.h w' → Fd K' N s' a' → ExRel K' x ex → QQ ex a' w'
theorem Post.mono {C : Cx} {K K1 : Ctx} {N : Nat} {x : Ex} {s' : St} {QQ : Exit → Act → World → Prop} (h : Post C K N x s' QQ) (hle : K.le K1) : Post C K1 N x s' QQ :=
  fun K' a' w' ex h1 h2 h3 h4 => h K' a' w' ex (hle.trans h1) h2 h3 h4

inductive URel (K : Ctx) : Option D → FrameMode → Prop
  | none : URel K none .returning
  | some (d : D) (v : Value) : Den K v d → URel K (some d) (.panicking [{ v, recovered := false }])

structure RSound (P : Program) (pg : Pg) (n : Nat) (R : Rc) : Prop where
  fn : FnS P pg R.fn
  yl : ∀ k args h out h', R.yl k args h = some (out, h') → ∀ (C : Cx) (K : Ctx) (w : World) (vs : List Value) (b z : Nat), IsC P pg C → Sim C K h w → K.loc k = some (b, z) → DenL K vs args →
    ∃ fn tmps as bd, (Instr.yield b vs.toArray).run P w = .ok (.round b fn tmps as bd) w ∧ ∀ m, RoundIn (Fe P none) m P b fn tmps as bd w fun e w' => ∃ K', K.le K' ∧ Sim C K' h' w' ∧ OutRel K' out e
  lp : ∀ (c : Cfg) (cd : Cd) (s : St) (x : Ex) (s' : St), R.lp c cd s = some (x, s') → ∀ (code : Code), c.pg = pg → Cd.of P c.N code = some cd → ∀ (C : Cx) (K : Ctx) (a : Act) (w : World) (rb : Option Nat) (m : Nat) (QQ : Exit → Act → World → Prop),
    IsC P pg C → RndOk K c.r rb → Sim C K s.h w → Fd K c.N s a → Post C K c.N x s' QQ → Code.roundsIn (Fe P rb) m P code QQ n a w
  df : ∀ f args p h p' h', R.df f args p h = some (p', h') → FnIs P f ∧ ∀ (C : Cx) (K : Ctx) (w : World) (vs : List Value) (u : FrameMode) (m : Nat), IsC P pg C → Sim C K h w → DenL K vs args → URel K p u →
    CallsDIn (Fe P none) m P f vs.toArray u w fun e u' w' => ∃ v K', e = .returned v ∧ K.le K' ∧ Sim C K' h' w' ∧ URel K' p' (settle u')

section
variable {P : Program} {o : Oper} {a : Act} {w w' : World} {rb : Option Nat} {m : Nat} {next : Act → World → Prop} {Q : Exit → Act → World → Prop}

theorem wpIn_did {v : Value} (hpl : opPlain o.op = true) (hd : Did P o a w v w') (k : next (a.put o.dst v) w') : o.wpIn (Fe P rb) m P a w next Q := by
  refine ⟨fun f hf => (by rw [plain_about hpl] at hf; cases hf), ?_⟩
  rw [Oper.semAt_plain _ _ _ (plain_defer hpl)]
  cases hd with
  | value _ _ h => rw [h]; exact k
  | skip _ h => rw [h]; exact k

theorem callsIn_fe {f : FuncId} {args : Array Value} {R : Ending → World → Prop} (h : CallsIn (Fe P none) m P f args w R) : CallsIn (Fe P rb) m P f args w R := by
  cases rb with
  | none => exact h
  | some l => exact CallsIn.inRound l h

def Behind (a : Act) (o : Oper) (next : Act → World → Prop) (Q : Exit → Act → World → Prop) : Ending → World → Prop
  | .returned v, w' => next (a.put o.dst v) w'
  | .panicked chain, w' => Q (.panic chain) a w'
  | .outgrown, _ => False

theorem wpIn_call {f : FuncId} {vs : Array Value} (hnd : ∀ c, o.op ≠ .defer c) (hab : ∀ f', o.about P w a.eval = some f' → (P.funcs[f']?).isSome = true) (hr : (execOp a.eval o).run P w = .ok (.enter f vs) w)
    (hc : CallsIn (Fe P none) (m - 1) P f vs w (Behind a o next Q)) : o.wpIn (Fe P rb) m P a w next Q := by
  refine ⟨hab, ?_⟩
  rw [Oper.semAt_plain _ _ _ hnd, hr]
  refine ⟨fun h => by simp [Fe] at h, CallsIn.monoE (callsIn_fe hc) fun e w' h => ?_⟩
  cases e with
  | returned v => exact h
  | panicked ch => exact h
  | outgrown => exact h.elim

theorem wpIn_round {l fn : Nat} {tmps : Array Value} {as bd : Code} (hnd : ∀ c, o.op ≠ .defer c) (hab : o.about P w a.eval = none) (hr : (execOp a.eval o).run P w = .ok (.round l fn tmps as bd) w)
    (hc : RoundIn (Fe P none) (m - 1) P l fn tmps as bd w (Behind a o next Q)) : o.wpIn (Fe P rb) m P a w next Q := by
  refine ⟨fun f hf => (by rw [hab] at hf; cases hf), ?_⟩
  rw [Oper.semAt_plain _ _ _ hnd, hr]
  have hc' : RoundIn (Fe P rb) (m - 1) P l fn tmps as bd w (Behind a o next Q) := by
    cases rb with
    | none => exact hc
    | some l => exact hc
  refine ⟨fun h => by simp [Fe] at h, hc'.mono fun e w' h => ?_⟩
  cases e with
  | returned v => exact h
  | panicked ch => exact h
  | outgrown => exact h.elim
end

section
variable {P : Program} {pg : Pg} {n : Nat} {R : Rc}

theorem fn_run {f : FuncId} (hf : FnIs P f) (args : Array Value) (w : World) : (callFunc f args).run P w = .ok (.enter f args) w := by
  obtain ⟨fn, h1, h2, h3⟩ := hf
  simp [callFunc, h1, h2, h3]
theorem fn_some {f : FuncId} (hf : FnIs P f) : (P.funcs[f]?).isSome = true := by
  obtain ⟨fn, h1, h2, h3⟩ := hf
  simp [h1]

theorem ixb_generic : (Extern.allGenericRows.lookup "internal/bytealg.IndexByteString").isNone = true := by kernel_rfl
theorem ixb_typed : (Extern.allTypedRows.lookup "internal/bytealg.IndexByteString").isNone = true := by kernel_rfl
theorem ixb_next : (Extern.allNextRows.lookup "internal/bytealg.IndexByteString").isNone = true := by kernel_rfl
theorem ixb_next0 : (Extern.allNextRows.lookup "").isNone = true := by kernel_rfl
theorem ixb_rows : Extern.allRows.lookup "internal/bytealg.IndexByteString" = some Extern.BytealgIndexByte.indexByte := by kernel_rfl

theorem ixb_run {f : FuncId} (hib : isIxb P f = true) (b : ByteArray) (n : Int) (w : World) :
    (callFunc f #[.string b, .int .u8 n]).run P w = .ok (.value (match (List.range b.size).find? (fun i => b[i]! == n.toNat.toUInt8) with | some i => .int .i64 i | none => .int .i64 (-1))) w := by
  unfold isIxb at hib
  split at hib <;> try (cases hib; done)
  rename_i fn hf
  simp only [Bool.and_eq_true, beq_iff_eq] at hib
  obtain ⟨⟨h1, h2⟩, h3⟩ := hib
  have hn : Extern.findNext fn = none := by
    have e1 := Option.isNone_iff_eq_none.1 ixb_next
    have e2 := Option.isNone_iff_eq_none.1 ixb_next0
    simp only [Extern.findNext, h2, h3, e1, e2]
    rfl
  have he : Extern.find fn = some Extern.BytealgIndexByte.indexByte := by
    have e1 := Option.isNone_iff_eq_none.1 ixb_generic
    have e2 := Option.isNone_iff_eq_none.1 ixb_typed
    simp only [Extern.find, h2, e1, e2, ixb_rows]
    rfl
  rw [run_callFunc_extern hf (by rw [h2]; rfl) h1 hn he]
  have hx : Extern.BytealgIndexByte.indexByte #[.string b, .int .u8 n] = (match (List.range b.size).find? (fun i => b[i]! == n.toNat.toUInt8) with | some i => pure (goInt i) | none => pure (goInt (-1))) := rfl
  rw [hx]
  split <;> rfl

theorem ixb_sound {c : Cfg} {o : Oper} {cc : Call} {f : FuncId} {xs : List X} (hib : isIxb P f = true) (hsm : (P.funcs[f]?).isSome = true) (hop : o.op = .call cc) (hcal : cc.callee = .value (.func f)) {s : St} {r : Op1} (hev : (Cl.ixb f xs).ev c R s = some r)
    {C : Cx} {K : Ctx} {a : Act} {w : World} {rb : Option Nat} {m : Nat} (hargs : DenL K (cc.args.toList.map a.eval) (xs.map (rd c.pg.gl s.e))) (hs : Sim C K s.h w) (hf : Fd K c.N s a) {next : Act → World → Prop} {Q : Exit → Act → World → Prop}
    (kn : ∀ d s', r = .ok d s' → ∀ (K' : Ctx) (a' : Act) (w' : World), K.le K' → Sim C K' s'.h w' → Fd K' c.N { s' with e := put s'.e o.dst d } a' → next a' w') : o.wpIn (Fe P rb) m P a w next Q := by
  simp only [Cl.ev] at hev
  split at hev <;> try (cases hev; done)
  rename_i b n hr
  cases hev
  rw [hr] at hargs
  have hnd : ∀ c', o.op ≠ .defer c' := fun c' => by rw [hop]; intro x; cases x
  have hres : ∀ ρ : Operand → Value, ρ (.func f) = .func (.func f) #[] #[] → (resolve ρ cc o.type).run P w = .ok { target := .fn (.func f) #[], args := cc.args.map ρ } w := fun ρ hρ => by
    simp [resolve, hcal, hρ, Deferred.ofValue]
  have hlist : cc.args.toList.map a.eval = [.string b, .int .u8 n] := by
    generalize cc.args.toList.map a.eval = l at hargs
    cases hargs with
    | cons v _ vs _ k1 k2 => cases k2 with
      | cons v' _ vs' _ k3 k4 => cases k4; rw [k1.val_eq, k3.val_eq]
  have hargs' : cc.args.map a.eval = #[.string b, .int .u8 n] := by
    rw [← Array.toList_inj, Array.toList_map, hlist]
  refine ⟨fun f' hf' => ?_, ?_⟩
  · simp only [Oper.about, hop, hres a.eval rfl, Target.leads, Option.some.injEq] at hf'
    rw [← hf']; exact hsm
  · rw [Oper.semAt_plain _ _ _ hnd]
    have hrun : (execOp a.eval o).run P w = .ok (.value (match (List.range b.size).find? (fun i => b[i]! == n.toNat.toUInt8) with | some i => .int .i64 i | none => .int .i64 (-1))) w := by
      simp only [execOp, hop, Sem.run_bind, hres a.eval rfl, Result.andThen_ok, invoke, Array.append_empty, hargs']
      exact ixb_run hib b n w
    rw [hrun]
    refine kn _ _ rfl K _ w (.refl K) hs ⟨hf.fr.put o.dst (.val _ ?_), by have := hf.df; cases hd : o.dst <;> exact this⟩
    split <;> rfl

theorem cl_sound (hR : RSound P pg n R) {c : Cfg} (hc : c.pg = pg) {o : Oper} {q : Cl} (hq : Cl.of P c.N o = some q) {s : St} {r : Op1} (hev : q.ev c R s = some r) {C : Cx} {K : Ctx} {a : Act} {w : World} {rb : Option Nat} {m : Nat} (hC : IsC P pg C) (hrb : RndOk K c.r rb)
    (hs : Sim C K s.h w) (hf : Fd K c.N s a) {next : Act → World → Prop} {Q : Exit → Act → World → Prop}
    (kn : ∀ d s', r = .ok d s' → ∀ (K' : Ctx) (a' : Act) (w' : World), K.le K' → Sim C K' s'.h w' → Fd K' c.N { s' with e := put s'.e o.dst d } a' → next a' w')
    (kp : ∀ d s', r = .pan d s' → ∀ (K' : Ctx) (a' : Act) (w' : World) (ex : Exit), K.le K' → Sim C K' s'.h w' → Fd K' c.N s' a' → ExRel K' (.pan d) ex → Q ex a' w') : o.wpIn (Fe P rb) m P a w next Q := by
  have hpgl : c.pg.gl = C.pg.gl := by rw [hc, hC.hpg]
  have behind : ∀ {out : Out} {h' : Heap}, (match out with | .ret d => r = .ok d { s with h := h' } | .pan d => r = .pan d { s with h := h' }) → ∀ e w', (∃ K', K.le K' ∧ Sim C K' h' w' ∧ OutRel K' out e) → Behind a o next Q e w' := fun {out h'} hr e w' ⟨K', h1, h2, h3⟩ => by
    cases h3 with
    | ret d v hv => exact kn d _ hr K' _ w' h1 h2 ⟨(hf.fr.mono h1).put o.dst hv, by have := hf.df.mono h1; cases hd : o.dst <;> exact this⟩
    | pan d v hv => exact kp d _ hr K' a w' _ h1 h2 ⟨(hf.mono h1).fr, (hf.mono h1).df⟩ (.pan d v hv)
  unfold Cl.of at hq
  split at hq
  · rename_i cc hop
    split at hq
    · -- a function
      rename_i f hcal
      split at hq <;> try (cases hq; done)
      simp only [Option.map_eq_some_iff] at hq
      obtain ⟨xs, hxs, rfl⟩ := hq
      have hargs := mapM_rd hf.fr hs _ _ hxs
      rw [hC.hpg] at hargs
      unfold mkCall at hev
      split at hev
      · rename_i hib
        exact ixb_sound hib (by assumption) hop hcal hev (by rw [hc]; exact hargs) hs hf kn
      simp only [Cl.ev] at hev
      have hnd : ∀ c', o.op ≠ .defer c' := fun c' => by rw [hop]; intro x; cases x
      obtain ⟨out, h', hcall, hr⟩ : ∃ out h', call c.pg R f (xs.map (rd c.pg.gl s.e)) s.h = some (out, h') ∧ (match out with | .ret d => r = .ok d { s with h := h' } | .pan d => r = .pan d { s with h := h' }) := by
        split at hev <;> cases hev
        · exact ⟨_, _, by assumption, rfl⟩
        · exact ⟨_, _, by assumption, rfl⟩
      rw [hc] at hcall
      obtain ⟨hfi, hcs⟩ := (call_ok hR.fn).ok _ _ _ _ _ hcall
      have hres : ∀ ρ : Operand → Value, ρ (.func f) = .func (.func f) #[] #[] → (resolve ρ cc o.type).run P w = .ok { target := .fn (.func f) #[], args := cc.args.map ρ } w := fun ρ hρ => by
        simp [resolve, hcal, hρ, Deferred.ofValue]
      refine wpIn_call (f := f) (vs := (cc.args.toList.map a.eval).toArray) hnd (fun f' hf' => ?_) ?_ (CallsIn.monoE (hcs C K w _ (m - 1) hC hs hargs) (behind hr))
      · simp only [Oper.about, hop, hres a.eval rfl, Target.leads, Option.some.injEq] at hf'
        rw [← hf']; exact fn_some hfi
      · simp only [execOp, hop, Sem.run_bind, hres a.eval rfl, Result.andThen_ok, invoke, Array.append_empty]
        rw [← Array.toList_map, Array.toArray_toList]
        exact fn_run hfi _ w
    · -- a function value
      rename_i x hnf hcal
      simp only [Option.bind_eq_some_iff, Option.map_eq_some_iff] at hq
      obtain ⟨x', hx, xs, hxs, rfl⟩ := hq
      have hargs := mapM_rd hf.fr hs _ _ hxs
      have hdx := hf.fr.rd hs hx
      rw [← hpgl] at hargs hdx
      have hnd : ∀ c', o.op ≠ .defer c' := fun c' => by rw [hop]; intro x; cases x
      obtain ⟨v, hv⟩ : ∃ v, a.eval x = v := ⟨_, rfl⟩
      rw [hv] at hdx
      simp only [Cl.ev] at hev
      split at hev <;> try (cases hev; done)
      · rename_i f fs cs hrd
        rw [hrd] at hdx
        cases hdx with
        | fn _ us ws _ _ hus hws =>
          obtain ⟨out, h', hcall, hr⟩ : ∃ out h', call c.pg R f ((fs ++ xs.map (rd c.pg.gl s.e)) ++ cs) s.h = some (out, h') ∧ (match out with | .ret d => r = .ok d { s with h := h' } | .pan d => r = .pan d { s with h := h' }) := by
            split at hev <;> cases hev
            · exact ⟨_, _, by assumption, rfl⟩
            · exact ⟨_, _, by assumption, rfl⟩
          rw [hc] at hcall
          obtain ⟨hfi, hcs⟩ := (call_ok hR.fn).ok _ _ _ _ _ hcall
          rw [hc] at hargs
          have hres : (resolve a.eval cc o.type).run P w = .ok { target := .fn (.func f) ws.toArray, args := us.toArray ++ cc.args.map a.eval } w := by
            simp [resolve, hcal, hv, Deferred.ofValue]
          refine wpIn_call (f := f) (vs := ((us ++ cc.args.toList.map a.eval) ++ ws).toArray) hnd (fun f' hf' => ?_) ?_ (CallsIn.monoE (hcs C K w _ (m - 1) hC hs ((hus.append hargs).append hws)) (behind hr))
          · simp only [Oper.about, hop, hres, Target.leads, Option.some.injEq] at hf'
            rw [← hf']; exact fn_some hfi
          · simp only [execOp, hop, Sem.run_bind, hres, Result.andThen_ok, invoke]
            have e1 : us.toArray ++ cc.args.map a.eval ++ ws.toArray = ((us ++ cc.args.toList.map a.eval) ++ ws).toArray := by
              apply Array.ext'; simp
            rw [e1]
            exact fn_run hfi _ w
      · rename_i k hrd
        rw [hrd] at hdx
        cases hdx with
        | yld _ b z hb =>
          obtain ⟨out, h', hcall, hr⟩ : ∃ out h', R.yl k (xs.map (rd c.pg.gl s.e)) s.h = some (out, h') ∧ (match out with | .ret d => r = .ok d { s with h := h' } | .pan d => r = .pan d { s with h := h' }) := by
            split at hev <;> cases hev
            · exact ⟨_, _, by assumption, rfl⟩
            · exact ⟨_, _, by assumption, rfl⟩
          obtain ⟨fn, tmps, as, bd, hy, hround⟩ := hR.yl _ _ _ _ _ hcall C K w _ b z hC hs hb hargs
          have hres : (resolve a.eval cc o.type).run P w = .ok { target := .fn (.yield b) #[], args := cc.args.map a.eval } w := by
            simp [resolve, hcal, hv, Deferred.ofValue]
          refine wpIn_round hnd ?_ ?_ ((hround (m - 1)).mono (behind hr))
          · simp [Oper.about, hop, hres, Target.leads]
          · simp only [execOp, hop, Sem.run_bind, hres, Result.andThen_ok, invoke]
            rw [← Array.toList_map, Array.toArray_toList] at hy
            exact hy
    · -- recover
      cases hq
      simp [Cl.ev] at hev
    · cases hq
  · -- a deferred call
    rename_i cc hop
    split at hq
    · rename_i x hcal
      simp only [Option.bind_eq_some_iff, Option.map_eq_some_iff] at hq
      obtain ⟨x', hx, xs, hxs, rfl⟩ := hq
      have hargs := mapM_rd hf.fr hs _ _ hxs
      have hdx := hf.fr.rd hs hx
      rw [← hpgl] at hargs hdx
      simp only [Cl.ev] at hev
      split at hev <;> cases hev
      rename_i f fs cs hr hrd
      rw [hrd] at hdx
      obtain ⟨v, hv⟩ : ∃ v, a.eval x = v := ⟨_, rfl⟩
      rw [hv] at hdx
      have hrb0 : rb = none := by cases rb with | none => rfl | some b => rw [hr] at hrb; exact hrb.elim
      subst hrb0
      cases hdx with
      | fn _ us ws _ _ hus hws =>
        refine ⟨fun f' hf' => by simp [Oper.about, hop] at hf', ?_⟩
        rw [show (Fe P none).round = none from rfl, Oper.semAt_none]
        have hrun : (execOp a.eval o).run P w = .ok (.defer { target := .fn (.func f) ws.toArray, args := us.toArray ++ (cc.args.toList.map a.eval).toArray }) w := by
          simp [execOp, hop, resolve, hcal, hv, Deferred.ofValue]
        rw [hrun]
        refine kn _ _ rfl K _ w (.refl K) hs ⟨?_, ?_⟩
        · have := hf.fr.put o.dst (Den.junk (S := K) undef)
          cases hd : o.dst <;> rw [hd] at this <;> exact ⟨this.size, this.len, this.slots⟩
        · have : DfRel K (.call (.fn (.func f) fs cs) (xs.map (rd c.pg.gl s.e)) :: s.df) ({ target := .fn (.func f) ws.toArray, args := us.toArray ++ (cc.args.toList.map a.eval).toArray } :: a.defers) := .call f us _ ws fs _ cs _ _ hus hargs hws hf.df
          cases hd : o.dst <;> exact this
    · cases hq
  · -- a panic
    rename_i x hop
    simp only [Option.map_eq_some_iff] at hq
    obtain ⟨x', hx, rfl⟩ := hq
    have hdx := hf.fr.rd hs hx
    rw [← hpgl] at hdx
    simp only [Cl.ev] at hev
    split at hev <;> try (cases hev; done)
    rename_i t d hrd
    cases hev
    rw [hrd] at hdx
    obtain ⟨v, hv⟩ : ∃ v, a.eval x = v := ⟨_, rfl⟩
    rw [hv] at hdx
    have hpl : opPlain o.op = true := by rw [hop]; rfl
    refine ⟨fun f hf => (by rw [plain_about hpl] at hf; cases hf), ?_⟩
    rw [Oper.semAt_plain _ _ _ (plain_defer hpl)]
    cases hdx with
    | iface _ u _ hu =>
      have hrun : (execOp a.eval o).run P w = .halt (.panic (.iface t u)) w := by
        simp [execOp, hop, hv, Instr.panic, goPanic, Sem.run]
      rw [hrun]
      exact kp _ _ rfl K a w _ (.refl K) hs hf (.pan _ _ (.iface _ _ _ hu))
  · cases hq
end
end Go.Em
