/- How small code is read off a function's code. -/
import Derived.Test.YtfemldhlanoakaaGreatDoorEmDa
import Derived.Test.YtfemldhlanoakaaGreatDoorEmMa
import Derived.Test.YtfemldhlanoakaaGreatDoorEmL
namespace Go.Em
open Go Go.RowKit

abbrev DM (P : Program) (N : Nat) (o : Oper) := Option { m : M // MSound P N o m }

theorem arr1 {α : Type} {x : Array α} {a : α} (h : x.toList = [a]) : x = #[a] := by
  cases x; simp at h; subst h; rfl
theorem arr2 {α : Type} {x : Array α} {a b : α} (h : x.toList = [a, b]) : x = #[a, b] := by
  cases x; simp at h; subst h; rfl
theorem call_eq {c : Call} {b : Builtin} {as : Array Operand} {ts : Array TypeId} (h1 : c.callee = .builtin b) (h2 : c.args = as) (h3 : c.argTypes = ts) : c = { callee := .builtin b, args := as, argTypes := ts } := by
  cases c; simp_all

section
variable (P : Program) (N : Nat) (o : Oper)

def decEq (ng : Bool) (ty ty' : TypeId) (x y : Operand) (hop : o.op = .binOp (if ng then .neq else .eql) ty x y ty') : DM P N o :=
  match hx : X.of N x, hy : X.of N y with
  | some x', some y' =>
    match hu : P.underlying ty with
    | some .bool => some ⟨_, sound_eqb hop hx hy hu⟩
    | some (.int _) => some ⟨_, sound_bin hop hx hy⟩
    | some .string => some ⟨_, sound_bin hop hx hy⟩
    | some (.struct fs) =>
      if h1 : P.stoodInHeld ty = false then
        if h2 : P.eqGuardType P.depth ty = false then
          match hk : eqTy P 0 (P.fieldsOf ty).toList with
          | some ks => some ⟨_, sound_eqc hop hx hy (by rw [hu]; simp [Program.fieldsOf, hu]) h1 h2 hk⟩
          | none => none
        else none
      else none
    | some (.array n et) =>
      match hu2 : P.underlying et with
      | some (.struct fs) =>
        if h1 : P.stoodInHeld et = false then
          if h2 : P.eqGuardType P.depth ty = false then
            match hk : eqTy P 0 (P.fieldsOf et).toList with
            | some ks => if hc : P.cellsOf et = ks.length then some ⟨_, sound_eqa hop hx hy hu (by rw [hu2]; simp [Program.fieldsOf, hu2]) h1 h2 hk hc⟩ else none
            | none => none
          else none
        else none
      | _ => none
    | _ =>
      match hn : nkOf (P.underlying ty) with
      | some nk => if hc : (isNilC x || isNilC y) = true then some ⟨_, sound_eqn hop hx hy hn hc⟩ else none
      | none => none
  | _, _ => none

def decIndexAddr (ty : TypeId) (x i : Operand) (hop : o.op = .indexAddr ty x i) : DM P N o :=
  match hx : X.of N x, hi : X.of N i with
  | some _, some _ =>
    match hu : P.underlying ty with
    | some (.slice et) => match hj : P.info? et with
      | some _ => some ⟨_, sound_ias hop hx hi hu hj⟩
      | none => none
    | some (.array _ et) => match hj : P.info? et with
      | some _ => some ⟨_, sound_iaa hop hx hi hu hj⟩
      | none => none
    | _ => none
  | _, _ => none

def decSlice (ty : TypeId) (x : Operand) (lo hi mx : Option Operand) (hop : o.op = .slice ty x lo hi mx) : DM P N o :=
  match hx : X.of N x, hlo : optX N lo, hhi : optX N hi, hmx : optX N mx with
  | some _, some _, some _, some _ =>
    match hu : P.underlying ty with
    | some (.slice et) => match hj : P.info? et with
      | some _ => if hnm : mx.isSome = true → hi.isSome = true then some ⟨_, sound_slc hop hx hlo hhi hmx hnm hu hj⟩ else none
      | none => none
    | some .string => match mx, hop with
      | none, hop => some ⟨_, sound_sls hop hx hlo hhi hu⟩
      | _, _ => none
    | _ => none
  | _, _, _, _ => none

def decBuild (ty : TypeId) (parts : Array (Nat × Operand)) (hop : o.op = .build ty parts) : DM P N o :=
  match hi : P.info? ty with
  | some i => match hz : i.zero with
    | some z => if h1 : z.cells.toList.all (·.oneCell') = true then
      match hu : P.underlying ty with
      | some (.struct fs) => match hpl : placesOf P fs.toList with
        | some places => match hps : parts.toList.mapM (fun p => (places[p.1]?).bind fun q => (X.of N p.2).map fun x => (q.1, q.2, x)) with
          | some _ => some ⟨_, sound_bld hop hi hz h1 hu hpl hps⟩
          | none => none
        | none => none
      | some (.array _ et) => match hj : P.info? et with
        | some j => match hps : parts.toList.mapM (fun p => (X.of N p.2).map fun x => (p.1 * j.size, j.size, x)) with
          | some _ => some ⟨_, sound_blda hop hi hz h1 hu hj hps⟩
          | none => none
        | none => none
      | _ => none
      else none
    | none => none
  | none => none

def decBuildSlice (ty : TypeId) (len : Nat) (parts : Array (Nat × Operand)) (hop : o.op = .buildSlice ty len parts) : DM P N o :=
  match hu : P.underlying ty with
  | some (.slice et) => match hj : P.info? et with
    | some j => match hz : j.zero with
      | some z => match hps : parts.toList.mapM (fun p => (X.of N p.2).map fun x => (p.1, x)) with
        | some _ => if hc : len * j.size ≤ 16777216 ∧ 0 < j.size ∧ z.cells.size = j.size ∧ z.cells.toList.all (·.oneCell') = true then some ⟨_, sound_bs hop hps hc.1 hc.2.1 hu hj hz hc.2.2.1 hc.2.2.2⟩ else none
        | none => none
      | none => none
    | none => none
  | _ => none

def decBst (ty : TypeId) (len : Nat) (parts : Array (Nat × Operand)) (hop : o.op = .buildSlice ty len parts) : DM P N o :=
  match hu : P.underlying ty with
  | some (.slice et) => match hj : P.info? et with
    | some j => match hz : j.zero with
      | some z => match hps : parts.toList.mapM (fun p => (X.of N p.2).map fun x => (p.1, x)) with
        | some _ => if hc : len * j.size ≤ 16777216 ∧ 0 < j.size ∧ z.cells.size = j.size ∧ z.cells.toList.all (·.oneCell') = true then some ⟨_, sound_bst (sound_bs hop hps hc.1 hc.2.1 hu hj hz hc.2.2.1 hc.2.2.2)⟩ else none
        | none => none
      | none => none
    | none => none
  | _ => none
def decMakeSlice (ty : TypeId) (l c : Operand) (hop : o.op = .makeSlice ty l c) : DM P N o :=
  match hl : X.of N l, hc : X.of N c with
  | some _, some _ =>
    match hu : P.underlying ty with
    | some (.slice et) => match hj : P.info? et with
      | some j => match hz : j.zero with
        | some z => if h : 0 < j.bytes ∧ 0 < j.size ∧ z.cells.size = j.size ∧ z.cells.toList.all (·.oneCell') = true then some ⟨_, sound_mks hop hl hc hu hj hz h.1 h.2.1 h.2.2.1 h.2.2.2⟩ else none
        | none => none
      | none => none
    | _ => none
  | _, _ => none

def decLookup (ty : TypeId) (x k : Operand) (ok : Bool) (hop : o.op = .lookup ty x k ok) : DM P N o :=
  match hx : X.of N x, hk : X.of N k with
  | some _, some _ =>
    match hu : P.underlying ty with
    | some (.map kt vt) => match hd : P.underlying kt with
      | some td => match hck : ckOf (some td) with
        | some _ => match hi : P.info? vt with
          | some i => match hz : i.zero with
            | some z => if hzo : okZero z = true then some ⟨_, sound_lk hop hx hk hu hd hck hi hz hzo⟩ else none
            | none => none
          | none => none
        | none => none
      | none => none
    | _ => none
  | _, _ => none

def decUpd (ty : TypeId) (x k v : Operand) (hop : o.op = .mapUpdate ty x k v ∨ o.op = .insert ty x k v) : DM P N o :=
  match hx : X.of N x, hk : X.of N k, hv : X.of N v with
  | some _, some _, some _ =>
    match hu : P.underlying ty with
    | some (.map kt _) => match hd : P.underlying kt with
      | some td => match hck : ckOf (some td) with
        | some _ => some ⟨_, sound_upd hop hx hk hv hu hd hck⟩
        | none => none
      | none => none
    | _ => none
  | _, _, _ => none

def notIface : TypeDesc → Bool
  | .interface _ => false
  | _ => true
theorem notIface_spec {td : TypeDesc} (h : notIface td = true) : ∀ ms, td ≠ .interface ms := fun ms e => by subst e; cases h

def isSl : Option TypeDesc → Bool
  | some (.slice _) | some .string => true
  | _ => false
theorem isSl_spec {t : Option TypeDesc} (h : isSl t = true) : (∃ e', t = some (.slice e')) ∨ t = some .string := by
  unfold isSl at h
  split at h
  · exact .inl ⟨_, rfl⟩
  · exact .inr rfl
  · cases h

def decBuiltin (c : Call) (b : Builtin) (hop : o.op = .call c) (hb : c.callee = .builtin b) : DM P N o :=
  match b, hb with
  | .len, hb => match ha : c.args.toList, ht : c.argTypes.toList with
    | [x], [ty] => match hx : X.of N x with
      | some x' => match hu : P.underlying ty with
        | some (.slice et) => some ⟨_, sound_len (by rw [hop, call_eq hb (arr1 ha) (arr1 ht)]) hx hu⟩
        | some .string => some ⟨_, sound_lens (by rw [hop, call_eq hb (arr1 ha) (arr1 ht)]) hx hu⟩
        | _ => none
      | none => none
    | _, _ => none
  | .cap, hb => match ha : c.args.toList, ht : c.argTypes.toList with
    | [x], [ty] => match hx : X.of N x with
      | some x' => match hu : P.underlying ty with
        | some (.slice et) => some ⟨_, sound_cap (by rw [hop, call_eq hb (arr1 ha) (arr1 ht)]) hx hu⟩
        | _ => none
      | none => none
    | _, _ => none
  | .append, hb => match ha : c.args.toList, ht : c.argTypes.toList with
    | [x, y], [ty, tx] => match hx : X.of N x, hy : X.of N y with
      | some x', some y' => match hu : P.underlying ty with
        | some (.slice et) => if hk : isSl (P.underlying tx) = true then match hj : P.info? et with
          | some j => match hz : j.zero with
            | some z => if h : z.cells.size = j.size ∧ 0 < j.size then some ⟨_, sound_app (by rw [hop, call_eq hb (arr2 ha) (arr2 ht)]) hx hy hu (isSl_spec hk) hj hz h.1 h.2⟩ else none
            | none => none
          | none => none
          else match hki : P.underlying tx with
          | some (.int _) => match hj : P.info? et with
            | some j => match hz : j.zero with
              | some z => if h : z.cells.size = j.size ∧ 0 < j.size ∧ z.cells.toList.all (·.oneCell') = true then some ⟨_, sound_apz (by rw [hop, call_eq hb (arr2 ha) (arr2 ht)]) hx hy hu hki hj hz h.1 h.2.1 h.2.2⟩ else none
              | none => none
            | none => none
          | _ => none
        | _ => none
      | _, _ => none
    | _, _ => none
  | .copy, hb => match ha : c.args.toList, ht : c.argTypes.toList with
    | [x, y], [ty, tx] => match hx : X.of N x, hy : X.of N y with
      | some x', some y' => match hu : P.underlying ty with
        | some (.slice et) => match hj : P.info? et with
          | some j => some ⟨_, sound_cpy (by rw [hop, call_eq hb (arr2 ha) (arr2 ht)]) hx hy hu hj⟩
          | none => none
        | _ => none
      | _, _ => none
    | _, _ => none
  | .clear, hb => match ha : c.args.toList, ht : c.argTypes.toList with
    | [x], [ty] => match hx : X.of N x with
      | some x' => match hu : P.underlying ty with
        | some (.slice et) => match hj : P.info? et with
          | some j => match hz : j.zero with
            | some z => if h : z.cells.size = j.size ∧ 0 < j.size ∧ z.cells.toList.all (·.oneCell') = true then some ⟨_, sound_clr (by rw [hop, call_eq hb (arr1 ha) (arr1 ht)]) hx hu hj hz h.1 h.2.1 h.2.2⟩ else none
            | none => none
          | none => none
        | _ => none
      | none => none
    | _, _ => none
  | .min, hb => match ha : c.args.toList with
    | [x, y] => match hx : X.of N x, hy : X.of N y with
      | some x', some y' => some ⟨.mm false x' y', sound_mm (ts := c.argTypes) (mx := false) (by rw [hop, call_eq hb (arr2 ha) rfl]; rfl) hx hy⟩
      | _, _ => none
    | _ => none
  | .max, hb => match ha : c.args.toList with
    | [x, y] => match hx : X.of N x, hy : X.of N y with
      | some x', some y' => some ⟨.mm true x' y', sound_mm (ts := c.argTypes) (mx := true) (by rw [hop, call_eq hb (arr2 ha) rfl]; rfl) hx hy⟩
      | _, _ => none
    | _ => none
  | _, _ => none

def decM : DM P N o := match hop : o.op with
  | .move x => match hx : X.of N x with
    | some _ => some ⟨_, sound_mv (.inl hop) hx⟩
    | none => none
  | .assign x => match hx : X.of N x with
    | some _ => some ⟨_, sound_mv (.inr hop) hx⟩
    | none => none
  | .pick c x y => match hc : X.of N c, hx : X.of N x, hy : X.of N y with
    | some _, some _, some _ => some ⟨_, sound_pick hop hc hx hy⟩
    | _, _, _ => none
  | .binOp .eql ty x y ty' => decEq P N o false ty ty' x y hop
  | .binOp .neq ty x y ty' => decEq P N o true ty ty' x y hop
  | .binOp _ _ x y _ => match hx : X.of N x, hy : X.of N y with
    | some _, some _ => some ⟨_, sound_bin hop hx hy⟩
    | _, _ => none
  | .unOp .not _ x => match hx : X.of N x with
    | some _ => some ⟨_, sound_not hop hx⟩
    | none => none
  | .unOp .neg _ x => match hx : X.of N x with
    | some _ => some ⟨_, sound_neg hop hx⟩
    | none => none
  | .unOp .xor _ x => match hx : X.of N x with
    | some _ => some ⟨_, sound_cpl hop hx⟩
    | none => none
  | .convert u t x => match hx : X.of N x, hs : P.underlying u, ht : P.underlying t with
    | some _, some (.int _), some (.int _) => some ⟨_, sound_cvi hop hx hs ht⟩
    | some _, some (.slice et), some .string => match he : P.underlying et with
      | some (.int .u8) => some ⟨_, sound_b2s hop hx hs he ht⟩
      | _ => none
    | some _, some .string, some (.slice et) => match he : P.underlying et with
      | some (.int .u8) => some ⟨_, sound_s2b hop hx hs ht he⟩
      | _ => none
    | _, _, _ => none
  | .box t x => match hx : X.of N x, hi : P.info? t with
    | some _, some _ => some ⟨_, sound_box hop hx hi⟩
    | _, _ => none
  | .alloc t => match hi : P.info? t with
    | some i => match hz : i.zero with
      | some z => if h1 : z.cells.toList.all (·.oneCell') = true then some ⟨_, sound_alloc hop hi hz h1⟩ else none
      | none => none
    | none => none
  | .load t x => match hx : X.of N x, hs : shapeOf P t with
    | some _, some (_, _) => some ⟨_, sound_ld hop hx hs⟩
    | _, _ => none
  | .store t x y => match hx : X.of N x, hy : X.of N y, hi : P.info? t with
    | some _, some _, some _ => some ⟨_, sound_st hop hx hy hi⟩
    | _, _, _ => none
  | .nilCheck x => match hx : X.of N x with
    | some _ => some ⟨_, sound_nc hop hx⟩
    | none => none
  | .fieldAddr t x f => match hx : X.of N x, hu : P.underlying t with
    | some _, some (.struct fs) => match hf : fs[f]? with
      | some fl => match hi : P.info? fl.type with
        | some i => if h0 : i.size ≠ 0 then some ⟨_, sound_fa hop hx hu hf hi h0⟩ else none
        | none => none
      | none => none
    | _, _ => none
  | .indexAddr t x i => decIndexAddr P N o t x i hop
  | .field t x f => match hx : X.of N x, hu : P.underlying t with
    | some _, some (.struct fs) => match hf : fs[f]? with
      | some fl => match hs : shapeOf P fl.type with
        | some (_, _) => some ⟨_, sound_fd hop hx hu hf hs⟩
        | none => none
      | none => none
    | _, _ => none
  | .index t x i => match hx : X.of N x, hi : X.of N i, hu : P.underlying t with
    | some _, some _, some .string => some ⟨_, sound_ixs hop hx hi hu⟩
    | some _, some _, some (.array _ et) => match hs : shapeOf P et with
      | some (_, _) => some ⟨_, sound_ixa hop hx hi hu hs⟩
      | none => none
    | _, _, _ => none
  | .extract x _ => match hx : X.of N x with
    | some _ => some ⟨_, sound_ex hop hx⟩
    | none => none
  | .build t parts => decBuild P N o t parts hop
  | .buildSlice t l parts => decBuildSlice P N o t l parts hop
  | .makeSlice t l c => decMakeSlice P N o t l c hop
  | .slice t x lo hi mx => decSlice P N o t x lo hi mx hop
  | .makeFunc (.func _) fs caps => match hy : fs.toList.mapM (X.of N), hx : caps.toList.mapM (X.of N) with
    | some _, some _ => some ⟨_, sound_mkf hop hy hx⟩
    | _, _ => none
  | .makeMap _ none => some ⟨_, sound_mkm hop⟩
  | .makeMap t (some c) => match hc : X.of N c, hu : P.underlying t with
    | some _, some (.map _ _) => some ⟨_, sound_mkmc hop hc hu⟩
    | _, _ => none
  | .mapUpdate t x k v => decUpd P N o t x k v (.inl hop)
  | .insert t x k v => decUpd P N o t x k v (.inr hop)
  | .lookup t x k ok => decLookup P N o t x k ok hop
  | .range t x => match hx : X.of N x, hu : P.underlying t with
    | some _, some .string => some ⟨_, sound_rng hop hx hu⟩
    | _, _ => none
  | .next x true => match hx : X.of N x with
    | some _ => some ⟨_, sound_nxt hop hx⟩
    | none => none
  | .makeInterface t x => match hx : X.of N x, hu : P.underlying t with
    | some _, some td => if h : notIface td = true then some ⟨_, sound_mki hop hx hu (notIface_spec h)⟩ else none
    | _, _ => none
  | .typeAssert x _ t true => match hx : X.of N x, hi : P.info? t, hu : P.underlying t with
    | some _, some i, some td => match hz : i.zero with
      | some z => if h : notIface td = true ∧ okZero z = true then some ⟨_, sound_ta hop hx hi hz h.2 hu (notIface_spec h.1)⟩ else none
      | none => none
    | _, _, _ => none
  | .call c => match hb : c.callee with
    | .builtin b => decBuiltin P N o c b hop hb
    | _ => none
  | _ => none
end

/-- The search for a byte, which the model tells of without a body. -/
def isIxb (P : Program) (f : FuncId) : Bool := match P.funcs[f]? with
  | some fn => fn.body.isNone && fn.name == "internal/bytealg.IndexByteString" && fn.origin == ""
  | none => false
def mkCall (P : Program) (f : FuncId) (xs : List X) : Cl := if isIxb P f = true then .ixb f xs else .fn f xs
def Cl.of (P : Program) (N : Nat) (o : Oper) : Option Cl := match o.op with
  | .call c => match c.callee with
    | .value (.func f) => if (P.funcs[f]?).isSome = true then (c.args.toList.mapM (X.of N)).map fun xs => mkCall P f xs else none
    | .value x => if o.guard.isNone = true then (X.of N x).bind fun x => (c.args.toList.mapM (X.of N)).map fun xs => .val x xs else none
    | .builtin .recover => some .rcv
    | _ => none
  | .defer c => match c.callee with
    | .value x => (X.of N x).bind fun x => (c.args.toList.mapM (X.of N)).map fun xs => .dfr x xs
    | _ => none
  | .panic x => (X.of N x).map .pan
  | _ => none

def guardOf (ops : Array Oper) (N : Nat) : Option (Nat × Bool) → Option (Option (Nat × Bool))
  | none => some none
  | some (j, want) => ((ops[j]?).bind (·.dst)).bind fun d => if d < N then some (some (d, want)) else none

/-- Is what an operation builds an argument of a call of the same region? -/
def argOf (N : Nat) (ops : Array Oper) (d : Nat) : Bool := ops.toList.any fun o => match o.op with
  | .call c => (match c.callee with
    | .value (.func _) => c.args.toList.any fun x => match X.of N x with
      | some (.s k) => k == d
      | _ => false
    | _ => false)
  | _ => false
/-- A list that is built to be handed on is a tree. -/
def decMA (P : Program) (N : Nat) (ops : Array Oper) (o : Oper) : DM P N o := match hop : o.op with
  | .buildSlice t l parts => if (match o.dst with | some d => l != 0 && argOf N ops d | none => false) = true then decBst P N o t l parts hop else decM P N o
  | _ => decM P N o
def G.of (P : Program) (N : Nat) (ops : Array Oper) (o : Oper) : Option G := (guardOf ops N o.guard).bind fun g => match decMA P N ops o with
  | some m => some ⟨g, o.dst, .inl m.1⟩
  | none => (Cl.of P N o).map fun c => ⟨g, o.dst, .inr c⟩
def Gs.of (P : Program) (N : Nat) (ops : Array Oper) : List Oper → Option (List G)
  | [] => some []
  | o :: l => (G.of P N ops o).bind fun g => (Gs.of P N ops l).bind fun gs => some (g :: gs)

def depsOf (o : Oper) : List Nat := (o.after.toList.filter (Region.binds .any)).map (·.on)
/-- What each operation waits for, and what that waits for. -/
def masks : List Oper → List Nat → List Nat
  | [], acc => acc
  | o :: l, acc => masks l (acc ++ [(depsOf o).foldl (fun b j => b ||| (1 <<< j) ||| acc.getD j 0) 0])
/-- The blocks to which a slot may lead. -/
def X.roots (r : List (Nat × List HK)) : X → List HK
  | .s n => (r.lookup n).getD [.at n]
  | _ => []
/-- Values of this type have no memory behind them. -/
def flatT (P : Program) : Nat → TypeId → Bool
  | 0, _ => false
  | n + 1, t => match P.underlying t with
    | some (.int _) | some .bool | some .string => true
    | some (.struct fs) => fs.all fun f => flatT P n f.type
    | some (.array _ e) => flatT P n e
    | _ => false
def flatF (P : Program) (f : FuncId) : Bool := match P.funcs[f]? with
  | some fn => fn.resultTypes.all (flatT P 4)
  | none => true
/-- A function without results is called for what it changes. -/
def noRes (P : Program) (f : FuncId) : Bool := match P.funcs[f]? with
  | some fn => fn.resultTypes.isEmpty
  | none => false
/-- It stores into an element of an element. -/
def deepSt (gs : List G) : Bool := gs.any fun g => match g.o with
  | .inl (.st _ (.s a) _) => gs.any fun g1 => g1.d == some a && (match g1.o with
    | .inl (.ias _ (.s b) _) => gs.any fun g2 => g2.d == some b && (match g2.o with
      | .inl (.ld _ _ (.s q)) => gs.any fun g3 => g3.d == some q && (match g3.o with
        | .inl (.ias ..) => true
        | _ => false)
      | _ => false)
    | _ => false)
  | _ => false
def deepC (P : Program) (N : Nat) : Code → Bool
  | .region _ ops _ => match Gs.of P N ops ops.toList with
    | some gs => deepSt gs
    | none => false
  | .seq a b => deepC P N a || deepC P N b
  | .cond _ a b => deepC P N a || deepC P N b
  | .block _ a => deepC P N a
  | .loop a => deepC P N a
  | .scope a => deepC P N a
  | _ => false
/-- It changes what its arguments lead to. -/
def deepF (P : Program) (f : FuncId) : Bool := match P.funcs[f]? with
  | some fn => (match fn.body with
    | some c => deepC P fn.ntmps c
    | none => false)
  | none => false
/-- The blocks that a call may freeze for good. -/
def callTs (P : Program) (ds : List (Option Nat)) (r : List (Nat × List HK)) (f : FuncId) (args : List X) : List HK :=
  if flatF P f then [] else
    let l := args.flatMap (X.roots r)
    if l.all fun k => match k with | .at s => !ds.contains (some s) | _ => true then l else []
def G.tsOf (P : Program) (fu : Bool) (ds : List (Option Nat)) (r : List (Nat × List HK)) (g : G) : Option (List HK) × List (Nat × List HK) := match g.o with
  | .inl m => let d := g.d.getD 0; match m with
    | .alloc .. | .box .. | .bs .. | .mks .. | .mkm | .mkmc .. => (some [.fr d], (d, [.fr d]) :: r)
    | .bst .. => (some [.fr d], (d, []) :: r)
    | .app _ _ _ x _ => (some (.fr d :: x.roots r), (d, .fr d :: x.roots r) :: r)
    | .st _ x _ | .cpy _ x _ | .clr _ x => (some (x.roots r), r)
    | .fa x _ | .iaa _ _ x _ | .ias _ x _ | .nc x | .mv x => (some [], (d, x.roots r) :: r)
    | .slc _ x _ _ _ => (some [], (d, x.roots r) :: r)
    | m => (if m.kind = 2 then none else some [], r)
  | .inr (.fn f args) => (if noRes P f || (fu && deepF P f) then none else some (callTs P ds r f args), r)
  | .inr (.val _ _) => (some [], r)
  | .inr _ => (none, r)
def tsAll (P : Program) (fu : Bool) (ds : List (Option Nat)) : List (Nat × List HK) → List G → List (Option (List HK))
  | _, [] => []
  | r, g :: l => (g.tsOf P fu ds r).1 :: tsAll P fu ds (g.tsOf P fu ds r).2 l
def G.light (g : G) : Bool := match g.o with
  | .inl m => decide (m.kind = 0)
  | .inr _ => false
/-- The slots of the blocks that a load reads. -/
def rdAll (P : Program) (ds : List (Option Nat)) : List (Nat × List HK) → List G → List (Option (List Nat))
  | _, [] => []
  | r, g :: l => (match g.o with
    | .inl (.ld _ _ x) => (x.roots r).mapM fun k => match k with | .at s => some s | _ => none
    | _ => none) :: rdAll P ds (g.tsOf P false ds r).2 l
def unord (ms : List Nat) (i j : Nat) : Bool := !(j = i || (ms.getD i 0).testBit j || (ms.getD j 0).testBit i)
/-- Loads that say what they read, since what others change is not known when they may run. -/
def keepOf (fs : List Bool) (ms : List Nat) (tss : List (Option (List HK))) (ds : List (Option Nat)) (rs : List (Option (List Nat))) (i : Nat) : Option (List Nat) :=
  match rs.getD i none with
  | some ss =>
    let late := fun s => (List.range ds.length).any fun k => ds.getD k none == some s && unord ms i k
    let bad := (List.range tss.length).any fun j => unord ms i j && ((tss.getD j none).getD []).any fun k => match k with | .at s => late s | _ => false
    let bad := bad || (List.range tss.length).any fun j => unord ms i j && fs.getD j false
    if bad && ss.all (fun s => !ds.contains (some s)) && !ss.isEmpty then some ss else none
  | none => none
def addAll (l m : List HK) : List HK := m.foldl (fun l k => if l.contains k then l else l ++ [k]) l
def hsOf (fs : List Bool) (ms : List Nat) (tss : List (Option (List HK))) (ks : List (Option (List Nat))) (g : G) (i : Nat) : List HK :=
  if g.light then [] else match ks.getD i none with
  | some ss => ss.map .keep
  | none => (List.range tss.length).foldl (fun l j => if unord ms i j then
      (match ks.getD j none with
      | some ss => if ((tss.getD i none).getD []).isEmpty && !fs.getD i false then l else addAll l (ss.map .av)
      | none => addAll l ((tss.getD j none).getD [])) else l) []
def mkDraw (fs : List Bool) (ms : List Nat) (tss : List (Option (List HK))) (ks : List (Option (List Nat))) : Nat → List G → List DG
  | _, [] => []
  | i, g :: l => { g, ts := tss.getD i none, hs := hsOf fs ms tss ks g i, wt := ms.getD i 0 } :: mkDraw fs ms tss ks (i + 1) l
def drawOf (P : Program) (fu : Bool) (ops : List Oper) (gs : List G) : List DG :=
  let ms := masks ops []
  let ds := gs.map (·.d)
  let tss := tsAll P fu ds [] gs
  let rs := rdAll P ds [] gs
  let fs := gs.map fun g => fu && (match g.o with | .inr (.fn f _) => deepF P f | _ => false)
  mkDraw fs ms tss ((List.range gs.length).map (keepOf fs ms tss ds rs)) 0 gs
theorem mkDraw_g (fs : List Bool) (ms : List Nat) (tss : List (Option (List HK))) (ks : List (Option (List Nat))) : ∀ (l : List G) (i : Nat), (mkDraw fs ms tss ks i l).map (·.g) = l
  | [], _ => rfl
  | g :: l, i => by simp only [mkDraw, List.map_cons, mkDraw_g fs ms tss ks l]
theorem drawOf_g (P : Program) (fu : Bool) (ops : List Oper) (gs : List G) : (drawOf P fu ops gs).map (·.g) = gs := mkDraw_g _ _ _ _ _ _
/-- Does some call of the region change what its arguments lead to? -/
def anyDeep (P : Program) (gs : List G) : Bool := gs.any fun g => match g.o with
  | .inr (.fn f _) => deepF P f
  | _ => false
def dflt : DG := ⟨⟨none, none, .inr .rcv⟩, none, [], 0, false⟩
/-- Does every order come to the text's? -/
def okDraw (P : Program) (ops : List Oper) (xs : List DG) : Bool :=
  let ms := masks ops []
  let n := ops.length
  P.follows .mixedOrders &&
  (List.range n).all fun i =>
    let b := ms.getD i 0
    match ops[i]? with
    | none => false
    | some o => (depsOf o).all (fun d => decide (d < i)) && (xs.getD i dflt).wt == b && !(xs.getD i dflt).pn &&
      ((List.range i).all fun j => b.testBit j || (xs.getD i dflt).free (xs.getD j dflt)) &&
      ((List.range n).all fun j => !b.testBit j || (depsOf o).contains j || (depsOf o).any fun d => (ms.getD d 0).testBit j)

def Cd.of (P : Program) (N : Nat) : Code → Option Cd
  | .skip => some .skip
  | .label _ => some .skip
  | .region _ ops false => (Gs.of P N ops ops.toList).map .region
  | .region _ ops true => (Gs.of P N ops ops.toList).bind fun gs =>
    let xs := drawOf P (anyDeep P gs) ops.toList gs
    if okDraw P ops.toList xs = true then some (.draw xs) else
      let ys := drawOf P false ops.toList gs
      if okDraw P ops.toList ys = true then some (.draw ys) else none
  | .seq a b => (Cd.of P N a).bind fun a => (Cd.of P N b).bind fun b => some (.seq a b)
  | .cond x a b => (X.of N x).bind fun x => (Cd.of P N a).bind fun a => (Cd.of P N b).bind fun b => some (.cond x a b)
  | .block id c => (Cd.of P N c).map (.block id)
  | .loop c => (Cd.of P N c).map .loop
  | .scope c => (Cd.of P N c).map .scope
  | .exit id => some (.exit id)
  | .ret => some .ret
  | .rangeFunc g ps c d => (X.of N g).bind fun x => (Cd.of P N c).bind fun a => (Cd.of P N d).bind fun b => if ps.toList.all (fun p => decide (p < N)) = true then some (.rangeF x ps.toList a b) else none
  | _ => none
end Go.Em
