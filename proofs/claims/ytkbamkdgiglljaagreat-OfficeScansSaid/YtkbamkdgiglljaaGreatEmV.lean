/- What a call answers, with whatever fuel beyond some; plain words for what the evaluator does. -/
import Derived.Test.YtkbamkdgiglljaaGreatEmR
noncomputable section
namespace Go.Em
open Go Go.RowKit

def Ev (pg : Pg) (f : FuncId) (args : List D) (o : Out) : Prop := ∃ k, ∀ n, k ≤ n → pureCall (rc pg n) f args = some o

def Ends (pg : Pg) (f : FuncId) (args : List D) (h : Heap) (o : Out) (h' : Heap) : Prop := ∃ k, ∀ n, k ≤ n → (rc pg n).fn f args h = some (o, h')

theorem Ev.of_ret {pg : Pg} {f : FuncId} {args : List D} {r : D} {h : Heap} {d : D} {ks : List Nat} (x : Ends pg f args .empty (.ret r) h) (hf : frz h depth r = some (d, ks)) : Ev pg f args (.ret d) := by
  obtain ⟨k, x⟩ := x
  exact ⟨k, fun n hn => by simp [pureCall, x n hn, hf]⟩
theorem Ev.of_pan {pg : Pg} {f : FuncId} {args : List D} {r : D} {h : Heap} {d : D} {ks : List Nat} (x : Ends pg f args .empty (.pan r) h) (hf : frz h depth r = some (d, ks)) : Ev pg f args (.pan d) := by
  obtain ⟨k, x⟩ := x
  exact ⟨k, fun n hn => by simp [pureCall, x n hn, hf]⟩
theorem Ends.of {pg : Pg} {f : FuncId} {args : List D} {h : Heap} {o : Out} {h' : Heap} (k : Nat) (x : ∀ n, k ≤ n → fnBody pg (rc pg n) f args h = some (o, h')) : Ends pg f args h o h' :=
  ⟨k + 1, fun n hn => by
    obtain ⟨m, rfl⟩ : ∃ m, n = m + 1 := ⟨n - 1, by omega⟩
    exact x m (by omega)⟩

theorem each_canon (h : Heap) (n : Nat) : ∀ l : List D, D.canonL l = true → each (frz h (n + 1)) l = some (l, [])
  | [], _ => rfl
  | d :: l, hl => by
    simp only [D.canonL, Bool.and_eq_true] at hl
    have h1 : frz h (n + 1) d = some (d, []) := by unfold frz; rw [if_pos hl.1]
    simp only [each, h1, each_canon h n l hl.2]; rfl
def D.isSl : D → Bool
  | .sl _ _ => true
  | _ => false
theorem call_of {pg : Pg} {R : Rc} {f : FuncId} {args : List D} {h : Heap} {o : Out} (hs : pg.sh f = false) (ha : D.canonL args = true) (x : pureCall R f args = some o) (hz : (!args.isEmpty || !o.d.isSl) = true := by rfl) : call pg R f args h = some (o, h) := by
  have : each (frz h depth) args = some (args, []) := each_canon h 23 args ha
  cases args with
  | cons a args => simp [call, hs, this, x, pureA, pureS]
  | nil =>
    have e : pureT R f = some o := by
      unfold pureT
      split
      · rename_i k o1 m sz c h1 hr
        unfold pureCall at x
        rw [hr] at x
        simp only [Option.map_eq_some_iff] at x ⊢
        obtain ⟨⟨d, ks⟩, h2, rfl⟩ := x
        refine ⟨(d, ks), h2, ?_⟩
        have hd : fullD m c d = d := by
          cases d with
          | sl z es => simp [D.isSl, Out.d] at hz
          | _ => rfl
        show Out.ret (fullD m c d) = Out.ret d
        rw [hd]
      · simp [pureS, x]
    simp [call, hs, this, pureA, e]

theorem call_frz {pg : Pg} {R : Rc} {f : FuncId} {a : D} {args as : List D} {h : Heap} {o : Out} (hs : pg.sh f = false) (ha : each (frz h depth) (a :: args) = some (as, [])) (x : pureCall R f as = some o) : call pg R f (a :: args) h = some (o, h) := by
  simp [call, hs, ha, x, pureA, pureS]
theorem Ev.mk {pg : Pg} {f : FuncId} {args : List D} {o : Out} (k : Nat) (x : ∀ n, k ≤ n → pureCall (rc pg (n + 1)) f args = some o) : Ev pg f args o :=
  ⟨k + 1, fun n hn => by
    obtain ⟨m, rfl⟩ : ∃ m, n = m + 1 := ⟨n - 1, by omega⟩
    exact x m (by omega)⟩
def out1 : Option (Out × Heap) → Option Out
  | some (.ret r, h) => (frz h depth r).map fun p => .ret p.1
  | some (.pan r, h) => (frz h depth r).map fun p => .pan p.1
  | none => none
theorem pureCall_succ {pg : Pg} {n : Nat} {f : FuncId} {args : List D} {fc : FnCode} (hc : pg.code f = some fc) (hn : args.length ≤ fc.N) :
    pureCall (rc pg (n + 1)) f args = out1 (match fc.code.ev ⟨pg, fc.N, none⟩ (rc pg n) (fc.start args .empty) with
      | some (.normal, s) => finish (rc pg n) fc.rs none s
      | some (.ret, s) => finish (rc pg n) fc.rs none s
      | some (.pan d, s) => finish (rc pg n) fc.rs (some d) s
      | _ => none) := by
  simp only [pureCall, rc, fnBody, hc, hn, if_true]
  rfl

section
variable {a b : Int} {k : IntKind} {s t : ByteArray} {x y : Bool}
@[simp] theorem bin_add : bin .add (.int k a) (.int k b) = some (.int k (k.wrap (a + b))) := by cases k <;> rfl
@[simp] theorem bin_sub : bin .sub (.int k a) (.int k b) = some (.int k (k.wrap (a - b))) := by cases k <;> rfl
@[simp] theorem bin_mul : bin .mul (.int k a) (.int k b) = some (.int k (k.wrap (a * b))) := by cases k <;> rfl
theorem bin_rem (hb : b ≠ 0) : bin .rem (.int k a) (.int k b) = some (.int k (a.tmod b)) := by simp [bin, binOp, Op.intDiv, hb]; rfl
@[simp] theorem bin_eql : bin .eql (.int k a) (.int k b) = some (.bool (a == b)) := by cases k <;> rfl
@[simp] theorem bin_neq : bin .neq (.int k a) (.int k b) = some (.bool (a != b)) := by cases k <;> rfl
@[simp] theorem bin_lss : bin .lss (.int k a) (.int k b) = some (.bool (decide (a < b))) := by cases k <;> rfl
@[simp] theorem bin_leq : bin .leq (.int k a) (.int k b) = some (.bool (decide (a ≤ b))) := by cases k <;> rfl
@[simp] theorem bin_gtr : bin .gtr (.int k a) (.int k b) = some (.bool (decide (a > b))) := by cases k <;> rfl
@[simp] theorem bin_geq : bin .geq (.int k a) (.int k b) = some (.bool (decide (a ≥ b))) := by cases k <;> rfl
@[simp] theorem bin_seql : bin .eql (.string s) (.string t) = some (.bool (s.toList == t.toList)) := rfl
@[simp] theorem bin_sneq : bin .neq (.string s) (.string t) = some (.bool (!(s.toList == t.toList))) := rfl
end

theorem wrap_i64 {n : Int} (h1 : -9223372036854775808 ≤ n) (h2 : n ≤ 9223372036854775807) : IntKind.i64.wrap n = n := by
  have e1 : (2 : Int) ^ IntKind.i64.bits = 18446744073709551616 := by decide
  have e2 : (2 : Int) ^ (IntKind.i64.bits - 1) = 9223372036854775808 := by decide
  simp only [IntKind.wrap, IntKind.signed, e1, e2, Bool.true_and, decide_eq_true_eq]
  split <;> omega

section
variable {gl : Nat → Option (List D)} {e : List D}
@[simp] theorem rd_c (v : Value) : rd gl e (.c v) = .val v := rfl
@[simp] theorem rd_f (f : FuncId) : rd gl e (.f f) = .fn (.func f) [] [] := rfl
@[simp] theorem put_none (d : D) : put e none d = e := rfl
end

theorem frz_canon {h : Heap} {d : D} (hd : d.canon = true) : frz h depth d = some (d, []) := by
  show frz h (23 + 1) d = _
  unfold frz; rw [if_pos hd]

structure Env (N : Nat) where
  l : List D
  hl : l.length = N
namespace Env
variable {N : Nat} {gl : Nat → Option (List D)}
def v (x : Env N) (n : Nat) : D := x.l.getD n .junk
def upd (x : Env N) (n : Nat) (d : D) : Env N := ⟨x.l.set n d, by rw [List.length_set, x.hl]⟩
def ini (N : Nat) (args : List D) : Env N := ⟨(args ++ List.replicate (N - args.length) D.junk).take N, by simp; omega⟩
@[simp] theorem v_upd (x : Env N) (n m : Nat) (d : D) : (x.upd n d).v m = if n = m ∧ n < N then d else x.v m := by
  unfold Env.v upd
  have := x.hl
  by_cases h : n = m
  · subst h
    by_cases h2 : n < N
    · simp [h2, List.getD_eq_getElem?_getD, this]
    · simp only [h2, and_false, if_false]
      rw [List.set_eq_of_length_le (by omega)]
  · simp [h, List.getD_eq_getElem?_getD, List.getElem?_set_ne h]
@[simp] theorem rd_env (x : Env N) (n : Nat) : rd gl x.l (.s n) = x.v n := rfl
@[simp] theorem getD_env (x : Env N) (n : Nat) : x.l.getD n .junk = x.v n := rfl
@[simp] theorem get?_env (x : Env N) (n : Nat) : x.l[n]?.getD .junk = x.v n := by
  unfold Env.v; rw [List.getD_eq_getElem?_getD]
@[simp] theorem put_env (x : Env N) (n : Nat) (d : D) : put x.l (some n) d = (x.upd n d).l := rfl
theorem v_ini (args : List D) (n : Nat) (hn : n < N) : (ini N args).v n = args.getD n .junk := by
  unfold Env.v ini
  simp only [List.getD_eq_getElem?_getD, List.getElem?_take, hn, if_true]
  by_cases h : n < args.length
  · rw [List.getElem?_append_left h]
  · rw [List.getElem?_append_right (by omega), List.getElem?_replicate, List.getElem?_eq_none (by omega)]
    split <;> rfl
theorem start_ini {fc : FnCode} {args : List D} (h : Heap) (hl : args.length ≤ fc.N) : fc.start args h = { e := (ini fc.N args).l, h, df := [] } := by
  have e : (args ++ List.replicate (fc.N - args.length) D.junk).take fc.N = args ++ List.replicate (fc.N - args.length) D.junk := List.take_of_length_le (by simp; omega)
  unfold FnCode.start
  rw [← e]
  rfl
end Env

theorem pureCall_body {pg : Pg} {n : Nat} {f : FuncId} {args : List D} {fc : FnCode} (hn : 0 < n) (hc : pg.code f = some fc) (hl : args.length ≤ fc.N) :
    ∃ m, n = m + 1 ∧ pureCall (rc pg n) f args = out1 (match fc.code.ev ⟨pg, fc.N, none⟩ (rc pg m) { e := (Env.ini fc.N args).l, h := .empty, df := [] } with
      | some (.normal, s) => finish (rc pg m) fc.rs none s
      | some (.ret, s) => finish (rc pg m) fc.rs none s
      | some (.pan d, s) => finish (rc pg m) fc.rs (some d) s
      | _ => none) := by
  obtain ⟨m, rfl⟩ : ∃ m, n = m + 1 := ⟨n - 1, by omega⟩
  exact ⟨m, rfl, by rw [pureCall_succ hc hl, Env.start_ini _ hl]⟩

/-! ### The evaluator in steps: each match by a name of its own, so that no two are held against each other -/
section
variable {c : Cfg} {R : Rc} {gl : Nat → Option (List D)} {base : Nat}
def andThen (x : Option (Ex × St)) (k : St → Option (Ex × St)) : Option (Ex × St) := match x with
  | some (.normal, s) => k s
  | o => o
@[simp] theorem andThen_normal (s : St) (k : St → Option (Ex × St)) : andThen (some (.normal, s)) k = k s := by unfold andThen; rfl
@[simp] theorem andThen_ret (s : St) (k : St → Option (Ex × St)) : andThen (some (.ret, s)) k = some (.ret, s) := by unfold andThen; rfl
@[simp] theorem andThen_exit (i : Nat) (s : St) (k : St → Option (Ex × St)) : andThen (some (.exit i, s)) k = some (.exit i, s) := by unfold andThen; rfl
@[simp] theorem andThen_pan (d : D) (s : St) (k : St → Option (Ex × St)) : andThen (some (.pan d, s)) k = some (.pan d, s) := by unfold andThen; rfl
def condK (c : Cfg) (R : Rc) (d : D) (a b : Cd) (s : St) : Option (Ex × St) := match d with
  | .val (.bool true) => a.ev c R s
  | .val (.bool false) => b.ev c R s
  | _ => none
@[simp] theorem condK_true (a b : Cd) (s : St) : condK c R (.val (.bool true)) a b s = a.ev c R s := by unfold condK; rfl
@[simp] theorem condK_false (a b : Cd) (s : St) : condK c R (.val (.bool false)) a b s = b.ev c R s := by unfold condK; rfl
def blockK (id : Nat) (x : Option (Ex × St)) : Option (Ex × St) := match x with
  | some (.exit i, s) => if i = id then some (.normal, s) else some (.exit i, s)
  | o => o
@[simp] theorem blockK_normal (id : Nat) (s : St) : blockK id (some (.normal, s)) = some (.normal, s) := by unfold blockK; rfl
@[simp] theorem blockK_ret (id : Nat) (s : St) : blockK id (some (.ret, s)) = some (.ret, s) := by unfold blockK; rfl
@[simp] theorem blockK_exit (id i : Nat) (s : St) : blockK id (some (.exit i, s)) = if i = id then some (.normal, s) else some (.exit i, s) := by unfold blockK; rfl
@[simp] theorem blockK_pan (id : Nat) (d : D) (s : St) : blockK id (some (.pan d, s)) = some (.pan d, s) := by unfold blockK; rfl
def opG (c : Cfg) (R : Rc) (base : Nat) (l : List G) (t : Option Nat) (o : Option Op1) : Option (Ex × St) := match o with
  | some (.ok d s) => runG c R base l { s with e := put s.e t d }
  | some (.pan d s) => some (.pan d, s)
  | none => none
@[simp] theorem opG_ok (l : List G) (t : Option Nat) (d : D) (s : St) : opG c R base l t (some (.ok d s)) = runG c R base l { s with e := put s.e t d } := by unfold opG; rfl
@[simp] theorem opG_pan (l : List G) (t : Option Nat) (d : D) (s : St) : opG c R base l t (some (.pan d s)) = some (.pan d, s) := by unfold opG; rfl
def stepG (c : Cfg) (R : Rc) (base : Nat) (g : G) (l : List G) (b : Option Bool) (s : St) : Option (Ex × St) := match b with
  | some true => opG c R base l g.d (g.ev c R base s)
  | some false => if g.quiet c s.e = true then runG c R base l { s with e := put s.e g.d (.tup []) } else none
  | none => none
@[simp] theorem stepG_true (g : G) (l : List G) (s : St) : stepG c R base g l (some true) s = opG c R base l g.d (g.ev c R base s) := by unfold stepG; rfl
@[simp] theorem stepG_false (g : G) (l : List G) (s : St) : stepG c R base g l (some false) s = if g.quiet c s.e = true then runG c R base l { s with e := put s.e g.d (.tup []) } else none := by unfold stepG; rfl
@[simp] theorem quiet_m (g : Option (Nat × Bool)) (d : Option Nat) (m : M) (e : List D) : G.quiet c ⟨g, d, .inl m⟩ e = true := by unfold G.quiet; rfl
@[simp] theorem quiet_fn (g : Option (Nat × Bool)) (d : Option Nat) (f : FuncId) (args : List X) (e : List D) : G.quiet c ⟨g, d, .inr (.fn f args)⟩ e = true := by unfold G.quiet; rfl
@[simp] theorem quiet_val (g : Option (Nat × Bool)) (d : Option Nat) (x : X) (args : List X) (e : List D) : G.quiet c ⟨g, d, .inr (.val false x args)⟩ e = true := by unfold G.quiet; rfl
@[simp] theorem quiet_gval (g : Option (Nat × Bool)) (d : Option Nat) (x : X) (args : List X) (e : List D) : G.quiet c ⟨g, d, .inr (.val true x args)⟩ e = known c (rd c.pg.gl e x) := by unfold G.quiet; rfl
@[simp] theorem known_tup (l : List D) : known c (.tup l) = true := by unfold known; rfl
@[simp] theorem known_fn (f : FuncId) (fs cs : List D) : known c (.fn (.func f) fs cs) = (c.pg.code f).isSome := by unfold known; rfl
def wantV (w : Bool) (d : D) : Option Bool := match d with
  | .val (.bool b) => some (b == w)
  | .tup _ => some false
  | _ => none
@[simp] theorem wantV_bool (w b : Bool) : wantV w (.val (.bool b)) = some (b == w) := by unfold wantV; rfl
@[simp] theorem wantV_tup (w : Bool) (l : List D) : wantV w (.tup l) = some false := by unfold wantV; rfl
def okK (s : St) (o : Option (D × Heap)) : Option Op1 := match o with
  | some p => some (.ok p.1 { s with h := p.2 })
  | none => none
@[simp] theorem okK_some (s : St) (d : D) (h : Heap) : okK s (some (d, h)) = some (.ok d { s with h := h }) := by unfold okK; rfl
def outK (s : St) (o : Option (Out × Heap)) : Option Op1 := match o with
  | some (.ret d, h) => some (.ok d { s with h })
  | some (.pan d, h) => some (.pan d { s with h })
  | none => none
@[simp] theorem outK_ret (s : St) (d : D) (h : Heap) : outK s (some (.ret d, h)) = some (.ok d { s with h := h }) := by unfold outK; rfl
@[simp] theorem outK_pan (s : St) (d : D) (h : Heap) : outK s (some (.pan d, h)) = some (.pan d { s with h := h }) := by unfold outK; rfl

@[simp] theorem ev_skip (s : St) : Cd.ev c R .skip s = some (.normal, s) := by rw [Cd.ev]
@[simp] theorem ev_ret (s : St) : Cd.ev c R .ret s = some (.ret, s) := by rw [Cd.ev]
@[simp] theorem ev_exit (i : Nat) (s : St) : Cd.ev c R (.exit i) s = some (.exit i, s) := by rw [Cd.ev]
@[simp] theorem ev_region (ops : List G) (s : St) : Cd.ev c R (.region ops) s = runG c R s.h.next ops { s with h := s.h.bump c.N } := by rw [Cd.ev]
@[simp] theorem ev_seq (a b : Cd) (s : St) : Cd.ev c R (.seq a b) s = andThen (a.ev c R s) (b.ev c R) := by
  rw [Cd.ev]; unfold andThen; rfl
@[simp] theorem ev_cond (x : X) (a b : Cd) (s : St) : Cd.ev c R (.cond x a b) s = condK c R (rd c.pg.gl s.e x) a b s := by
  rw [Cd.ev]; unfold condK; rfl
@[simp] theorem ev_block (id : Nat) (a : Cd) (s : St) : Cd.ev c R (.block id a) s = blockK id (a.ev c R s) := by
  rw [Cd.ev]; unfold blockK; rfl
@[simp] theorem ev_scope (a : Cd) (s : St) : Cd.ev c R (.scope a) s = a.ev c R s := by rw [Cd.ev]
theorem ev_loop (a : Cd) (s : St) : Cd.ev c R (.loop a) s = R.lp c a s := by rw [Cd.ev]
@[simp] theorem runG_nil (s : St) : runG c R base [] s = some (.normal, s) := by rw [runG]
@[simp] theorem runG_cons (g : G) (l : List G) (s : St) : runG c R base (g :: l) s = stepG c R base g l (g.want s.e) s := by
  rw [runG]; unfold stepG opG; rfl
@[simp] theorem want_none (d : Option Nat) (o : M ⊕ Cl) (e : List D) : G.want ⟨none, d, o⟩ e = some true := by unfold G.want; rfl
@[simp] theorem want_some (j : Nat) (w : Bool) (d : Option Nat) (o : M ⊕ Cl) (e : List D) : G.want ⟨some (j, w), d, o⟩ e = wantV w (e.getD j .junk) := by unfold G.want wantV; rfl
@[simp] theorem gev_m (g : Option (Nat × Bool)) (d : Option Nat) (m : M) (s : St) : G.ev c R base ⟨g, d, .inl m⟩ s = okK s (m.ev c.pg.gl (base + d.getD 0) s.e s.h) := by
  unfold G.ev
  simp only
  cases m.ev c.pg.gl (base + d.getD 0) s.e s.h with
  | none => rfl
  | some p => rfl
@[simp] theorem gev_c (g : Option (Nat × Bool)) (d : Option Nat) (q : Cl) (s : St) : G.ev c R base ⟨g, d, .inr q⟩ s = q.ev c R s := by unfold G.ev; rfl
@[simp] theorem cl_fn (f : FuncId) (args : List X) (s : St) : Cl.ev c R s (.fn f args) = outK s (call c.pg R f (args.map (rd c.pg.gl s.e)) s.h) := by
  unfold Cl.ev outK; rfl
end

theorem bif_or {α : Type} {b : Bool} {x y : Option α} {z : α} (h : (bif b then x else y) = some z) : x = some z ∨ y = some z := by
  cases b
  · exact .inr h
  · exact .inl h
theorem bif_one {α : Type} {b : Bool} {x z : α} (h : (bif b then some x else none) = some z) : b = true ∧ x = z := by
  cases b
  · cases h
  · exact ⟨rfl, Option.some.inj h⟩
theorem more_of {k n : Nat} (hn : k ≤ n) : ∃ m, n = m + k := ⟨n - k, by omega⟩

def endK (R : Rc) (rs : List (ResultVar × Bool × Nat)) (x : Option (Ex × St)) : Option Out := out1 (match x with
  | some (.normal, s) => finish R rs none s
  | some (.ret, s) => finish R rs none s
  | some (.pan d, s) => finish R rs (some d) s
  | _ => none)
@[simp] theorem endK_normal (R : Rc) (rs : List (ResultVar × Bool × Nat)) (s : St) : endK R rs (some (.normal, s)) = out1 (finish R rs none s) := by unfold endK; rfl
@[simp] theorem endK_ret (R : Rc) (rs : List (ResultVar × Bool × Nat)) (s : St) : endK R rs (some (.ret, s)) = out1 (finish R rs none s) := by unfold endK; rfl
@[simp] theorem endK_pan (R : Rc) (rs : List (ResultVar × Bool × Nat)) (d : D) (s : St) : endK R rs (some (.pan d, s)) = out1 (finish R rs (some d) s) := by unfold endK; rfl
theorem body {pg : Pg} {n : Nat} {f : FuncId} {args : List D} {N : Nat} {sh : Bool} {rs : List (ResultVar × Bool × Nat)} {cd : Cd} (hn : 0 < n) (hc : pg.code f = some ⟨N, sh, rs, cd⟩) (hl : Nat.ble args.length N = true) :
    ∃ m, n = m + 1 ∧ pureCall (rc pg n) f args = endK (rc pg m) rs (cd.ev ⟨pg, N, none⟩ (rc pg m) { e := (Env.ini N args).l, h := .empty, df := [] }) := by
  obtain ⟨m, h1, h2⟩ := pureCall_body hn hc (Nat.le_of_ble_eq_true hl)
  exact ⟨m, h1, h2⟩

def rdB (b : Option Blk) (f : Option (List D)) : Option (List D) := match b with
  | some (.cells _ cs) => some cs
  | _ => f
@[simp] theorem rdB_cells (ty : TypeId) (cs : List D) (f : Option (List D)) : rdB (some (.cells ty cs)) f = some cs := by unfold rdB; rfl
@[simp] theorem rdB_none (f : Option (List D)) : rdB none f = f := by unfold rdB; rfl
@[simp] theorem rdc_is (h : Heap) (k : Nat) : h.rdc k = rdB (h.get k) (h.fzd k) := by unfold Heap.rdc rdB; rfl
attribute [simp] M.ev finish leave resL resD packD out1 optI eqD nilOf cellEq cellsEq D.wk
attribute [simp] D.canon D.canonL
end Go.Em
