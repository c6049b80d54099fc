/- Loops, and what stands in the heap, for proofs in steps. -/
import Derived.Test.YtkbamkdgiglljaaGreatEmV
noncomputable section
namespace Go.Em
open Go Go.RowKit

def Res (o : Option (Ex × St)) (Q : Ex → St → Prop) : Prop := ∃ x s, o = some (x, s) ∧ Q x s
@[simp] theorem Res_some {x : Ex} {s : St} {Q : Ex → St → Prop} : Res (some (x, s)) Q ↔ Q x s :=
  ⟨fun ⟨_, _, h, q⟩ => by cases h; exact q, fun h => ⟨x, s, rfl, h⟩⟩
theorem Res.mono {o : Option (Ex × St)} {P Q : Ex → St → Prop} (h : Res o P) (hk : ∀ x s, P x s → Q x s) : Res o Q := by
  obtain ⟨x, s, e, p⟩ := h; exact ⟨x, s, e, hk x s p⟩
theorem Res.bind {o : Option (Ex × St)} {k : St → Option (Ex × St)} {P Q : Ex → St → Prop} (h : Res o P) (hk : ∀ x s, P x s → Res (andThen (some (x, s)) k) Q) : Res (andThen o k) Q := by
  obtain ⟨x, s, rfl, p⟩ := h; exact hk x s p
theorem Res.block {o : Option (Ex × St)} {id : Nat} {P Q : Ex → St → Prop} (h : Res o P) (hk : ∀ x s, P x s → Res (blockK id (some (x, s))) Q) : Res (blockK id o) Q := by
  obtain ⟨x, s, rfl, p⟩ := h; exact hk x s p
theorem Res.after {o : Option (Ex × St)} {id : Nat} {k : St → Option (Ex × St)} {P Q : Ex → St → Prop} (h : Res o P) (hk : ∀ x s, P x s → Res (andThen (blockK id (some (x, s))) k) Q) : Res (andThen (blockK id o) k) Q := by
  obtain ⟨x, s, rfl, p⟩ := h; exact hk x s p
theorem Res.ends {o : Option (Ex × St)} {R : Rc} {rs : List (ResultVar × Bool × Nat)} {out : Out} {P : Ex → St → Prop} (h : Res o P) (hk : ∀ x s, P x s → endK R rs (some (x, s)) = some out) : endK R rs o = some out := by
  obtain ⟨x, s, rfl, p⟩ := h; exact hk x s p

theorem Res.endsAfter {o : Option (Ex × St)} {id : Nat} {k : St → Option (Ex × St)} {R : Rc} {rs : List (ResultVar × Bool × Nat)} {out : Out} {P : Ex → St → Prop} (h : Res o P) (hk : ∀ x s, P x s → endK R rs (andThen (blockK id (some (x, s))) k) = some out) :
    endK R rs (andThen (blockK id o) k) = some out := by
  obtain ⟨x, s, rfl, p⟩ := h; exact hk x s p

def Rnd (I : Nat → St → Prop) (Q : Ex → St → Prop) (k : Nat) (x : Ex) (s : St) : Prop := match x with
  | .normal => ∃ j, k = j + 1 ∧ I j s
  | x => Q x s
@[simp] theorem Rnd_normal {I : Nat → St → Prop} {Q : Ex → St → Prop} {k : Nat} {s : St} : Rnd I Q k .normal s ↔ ∃ j, k = j + 1 ∧ I j s := Iff.rfl
@[simp] theorem Rnd_exit {I : Nat → St → Prop} {Q : Ex → St → Prop} {k i : Nat} {s : St} : Rnd I Q k (.exit i) s ↔ Q (.exit i) s := Iff.rfl
@[simp] theorem Rnd_ret {I : Nat → St → Prop} {Q : Ex → St → Prop} {k : Nat} {s : St} : Rnd I Q k .ret s ↔ Q .ret s := Iff.rfl
@[simp] theorem Rnd_pan {I : Nat → St → Prop} {Q : Ex → St → Prop} {k : Nat} {d : D} {s : St} : Rnd I Q k (.pan d) s ↔ Q (.pan d) s := Iff.rfl

theorem lp_rule {pg : Pg} {c : Cfg} {a : Cd} (need : Nat) (I : Nat → St → Prop) (Q : Ex → St → Prop) (step : ∀ n, need ≤ n → ∀ k s, I k s → Res (a.ev c (rc pg n) s) (Rnd I Q k)) :
    ∀ k n s, need + k + 1 ≤ n → I k s → Res ((rc pg n).lp c a s) Q := by
  intro k
  induction k with
  | zero =>
    intro n s hn hI
    obtain ⟨m, rfl⟩ := more_of (show 1 ≤ n by omega)
    show Res (lpBody (rc pg m) c a s) Q
    obtain ⟨x, s', e, h⟩ := step m (by omega) 0 s hI
    unfold lpBody
    rw [e]
    cases x with
    | normal => obtain ⟨j, h1, _⟩ := h; omega
    | _ => exact ⟨_, _, rfl, h⟩
  | succ k ih =>
    intro n s hn hI
    obtain ⟨m, rfl⟩ := more_of (show 1 ≤ n by omega)
    show Res (lpBody (rc pg m) c a s) Q
    obtain ⟨x, s', e, h⟩ := step m (by omega) (k + 1) s hI
    unfold lpBody
    rw [e]
    cases x with
    | normal =>
      obtain ⟨j, h1, h2⟩ := h
      obtain rfl : j = k := by omega
      exact ih m s' (by omega) h2
    | _ => exact ⟨_, _, rfl, h⟩

def clV (c : Cfg) (R : Rc) (s : St) (args : List D) (d : D) : Option Op1 := match d with
  | .fn (.func f) fs cs => outK s (call c.pg R f ((fs ++ args) ++ cs) s.h)
  | .yld k => outK s (R.yl k args s.h)
  | _ => none
@[simp] theorem clV_fn (c : Cfg) (R : Rc) (s : St) (args : List D) (f : FuncId) (fs cs : List D) : clV c R s args (.fn (.func f) fs cs) = outK s (call c.pg R f ((fs ++ args) ++ cs) s.h) := by unfold clV; rfl
@[simp] theorem clV_yld (c : Cfg) (R : Rc) (s : St) (args : List D) (k : Nat) : clV c R s args (.yld k) = outK s (R.yl k args s.h) := by unfold clV; rfl
@[simp] theorem cl_val (c : Cfg) (R : Rc) (gd : Bool) (x : X) (args : List X) (s : St) : Cl.ev c R s (.val gd x args) = clV c R s (args.map (rd c.pg.gl s.e)) (rd c.pg.gl s.e x) := by
  unfold Cl.ev clV outK; rfl
/-! ### Drawn regions -/
section
variable {c : Cfg} {R : Rc} {base : Nat}
def drawK (c : Cfg) (R : Rc) (ops : List DG) (s : St) (o : Option St) : Option (Ex × St) := match o with
  | some s' => some (.normal, s')
  | none => (runDrP c R s.h.next ops 0 ops { s with h := s.h.bump c.N }).map fun d => (.pan d, panSt s.h.next c.N ops s)
@[simp] theorem drawK_some (ops : List DG) (s s' : St) : drawK c R ops s (some s') = some (.normal, s') := by unfold drawK; rfl
@[simp] theorem ev_draw (ops : List DG) (s : St) : Cd.ev c R (.draw ops) s = drawK c R ops s (runDr c R s.h.next ops { s with h := s.h.bump c.N }) := by
  rw [Cd.ev]; unfold drawK; rfl
def drK (c : Cfg) (R : Rc) (base : Nat) (l : List DG) (t : Option Nat) (s : St) (o : Option (D × Heap)) : Option St := match o with
  | some p => runDr c R base l { s with e := put s.e t p.1, h := p.2 }
  | none => none
@[simp] theorem drK_some (l : List DG) (t : Option Nat) (s : St) (d : D) (h : Heap) : drK c R base l t s (some (d, h)) = runDr c R base l { s with e := put s.e t d, h := h } := by unfold drK; rfl
@[simp] theorem runDr_nil (s : St) : runDr c R base [] s = some s := by rw [runDr]
@[simp] theorem runDr_cons (x : DG) (l : List DG) (s : St) : runDr c R base (x :: l) s = drK c R base l x.g.d s (dcore c R base x s.e s.h) := by
  rw [runDr]; unfold dstep drK
  cases dcore c R base x s.e s.h <;> rfl
def dM (c : Cfg) (base : Nat) (m : M) (t : Nat) (ts : List HK) (hs : List HK) (e : List D) (h : Heap) (b : Option Bool) : Option (D × Heap) := match b with
  | some false => some (.tup [], h)
  | some true => if ((hs.isEmpty || (m.ev c.pg.gl t e (h.kill (hids base e hs))).isSome) && (m.tch c.pg.gl t e).all (hids base e ts).contains && keepB c.pg.gl base e hs m && (m.tch c.pg.gl t e).all fun k => !(avids base e hs).contains k) = true then m.ev c.pg.gl t e h else none
  | none => none
@[simp] theorem dM_false (m : M) (t : Nat) (ts hs : List HK) (e : List D) (h : Heap) : dM c base m t ts hs e h (some false) = some (.tup [], h) := by unfold dM; rfl
@[simp] theorem dM_true (m : M) (t : Nat) (ts hs : List HK) (e : List D) (h : Heap) : dM c base m t ts hs e h (some true) =
    if ((hs.isEmpty || (m.ev c.pg.gl t e (h.kill (hids base e hs))).isSome) && (m.tch c.pg.gl t e).all (hids base e ts).contains && keepB c.pg.gl base e hs m && (m.tch c.pg.gl t e).all fun k => !(avids base e hs).contains k) = true then m.ev c.pg.gl t e h else none := by unfold dM; rfl
def dN (c : Cfg) (m : M) (t : Nat) (e : List D) (h : Heap) (b : Option Bool) : Option (D × Heap) := match b with
  | some false => some (.tup [], h)
  | some true => m.ev c.pg.gl t e h
  | none => none
@[simp] theorem dN_false (m : M) (t : Nat) (e : List D) (h : Heap) : dN c m t e h (some false) = some (.tup [], h) := by unfold dN; rfl
@[simp] theorem dN_true (m : M) (t : Nat) (e : List D) (h : Heap) : dN c m t e h (some true) = m.ev c.pg.gl t e h := by unfold dN; rfl
def dC (pn : Bool) (h : Heap) (o : Option Out) : Option (D × Heap) := match o with
  | some o => if (o.isPan == pn) = true then some (o.d, h) else none
  | none => none
@[simp] theorem dC_ret (h : Heap) (d : D) : dC false h (some (.ret d)) = some (d, h) := by unfold dC; rfl
def dF (R : Rc) (f : FuncId) (pn : Bool) (args : List D) (h : Heap) (b : Option Bool) : Option (D × Heap) := match b with
  | some false => some (.tup [], h)
  | some true => dC pn h (pureA R f args args)
  | none => none
@[simp] theorem dF_false (f : FuncId) (pn : Bool) (args : List D) (h : Heap) : dF R f pn args h (some false) = some (.tup [], h) := by unfold dF; rfl
@[simp] theorem dF_true (f : FuncId) (pn : Bool) (args : List D) (h : Heap) : dF R f pn args h (some true) = dC pn h (pureA R f args args) := by unfold dF; rfl
@[simp] theorem pureA_cons (f : FuncId) (a : D) (l as : List D) : pureA R f (a :: l) as = pureS R f as := by unfold pureA; rfl
@[simp] theorem pureS_is (f : FuncId) (args : List D) : pureS R f args = orS (pureCall R f args) (orS (splitNil R f args) (orS (splitAgg R f args) (splitAll R f args))) := pureS_orS R f args
@[simp] theorem orS_some (o : Out) (y : Option Out) : orS (some o) y = some o := by unfold orS; rfl
@[simp] theorem dcore_m (g : Option (Nat × Bool)) (d : Option Nat) (m : M) (ts hs : List HK) (wt : Nat) (pn : Bool) (e : List D) (h : Heap) : dcore c R base ⟨⟨g, d, .inl m⟩, some ts, hs, wt, pn⟩ e h = dM c base m (base + d.getD 0) ts hs e h (G.want ⟨g, d, .inl m⟩ e) := by
  unfold dcore dM
  cases G.want ⟨g, d, .inl m⟩ e with
  | none => rfl
  | some b => cases b <;> rfl
@[simp] theorem dcore_n (g : Option (Nat × Bool)) (d : Option Nat) (m : M) (hs : List HK) (wt : Nat) (pn : Bool) (e : List D) (h : Heap) : dcore c R base ⟨⟨g, d, .inl m⟩, none, hs, wt, pn⟩ e h = dN c m (base + d.getD 0) e h (G.want ⟨g, d, .inl m⟩ e) := by
  unfold dcore dN
  cases G.want ⟨g, d, .inl m⟩ e with
  | none => rfl
  | some b => cases b <;> rfl
theorem dcore_f (g : Option (Nat × Bool)) (d : Option Nat) (f : FuncId) (args : List X) (ts hs : List HK) (wt : Nat) (pn : Bool) (e : List D) (h : Heap) (hs' : c.pg.sh f = false) (ha : D.canonL (args.map (rd c.pg.gl e)) = true) :
    dcore c R base ⟨⟨g, d, .inr (.fn f args)⟩, some ts, hs, wt, pn⟩ e h = dF R f pn (args.map (rd c.pg.gl e)) h (G.want ⟨g, d, .inr (.fn f args)⟩ e) := by
  unfold dcore dF
  cases G.want ⟨g, d, .inr (.fn f args)⟩ e with
  | none => rfl
  | some b =>
    cases b with
    | false => rfl
    | true =>
      simp only [hs', each_canon _ 23 _ ha, depth, Bool.false_eq_true, if_false, List.isEmpty_nil, Bool.true_or, Bool.true_and]
      unfold dC
      cases pureA R f (args.map (rd c.pg.gl e)) (args.map (rd c.pg.gl e)) <;> rfl
def atId (d : D) : Option Nat := match d with
  | .ptr k _ => some k
  | .slr k _ _ _ _ => some k
  | .mapr k => some k
  | _ => none
@[simp] theorem atId_ptr (k o : Nat) : atId (.ptr k o) = some k := by unfold atId; rfl
@[simp] theorem atId_slr (k o n sz : Nat) (cc : Option Nat) : atId (.slr k o n sz cc) = some k := by unfold atId; rfl
@[simp] theorem atId_val (v : Value) : atId (.val v) = none := by unfold atId; rfl
@[simp] theorem id_fr (e : List D) (s : Nat) : HK.id base e (.fr s) = some (base + s) := by unfold HK.id; rfl
@[simp] theorem id_at (e : List D) (s : Nat) : HK.id base e (.at s) = atId (e.getD s .junk) := by unfold HK.id atId; rfl
@[simp] theorem hids_keep (e : List D) (s : Nat) (l : List HK) : hids base e (.keep s :: l) = hids base e l := rfl
@[simp] theorem hids_av (e : List D) (s : Nat) (l : List HK) : hids base e (.av s :: l) = hids base e l := rfl
@[simp] theorem avids_nil (e : List D) : avids base e [] = [] := rfl
@[simp] theorem avids_fr (e : List D) (s : Nat) (l : List HK) : avids base e (.fr s :: l) = avids base e l := rfl
@[simp] theorem avids_at' (e : List D) (s : Nat) (l : List HK) : avids base e (.at s :: l) = avids base e l := rfl
@[simp] theorem avids_keep (e : List D) (s : Nat) (l : List HK) : avids base e (.keep s :: l) = avids base e l := rfl
@[simp] theorem kids_nil (e : List D) : kids base e [] = [] := rfl
@[simp] theorem keepB_nil (gl : Nat → Option (List D)) (e : List D) (m : M) : keepB gl base e [] m = true := rfl
@[simp] theorem isKeep_fr (s : Nat) : HK.isKeep (.fr s) = false := rfl
@[simp] theorem isKeep_at (s : Nat) : HK.isKeep (.at s) = false := rfl
@[simp] theorem isKeep_keep (s : Nat) : HK.isKeep (.keep s) = true := rfl
@[simp] theorem isKeep_av (s : Nat) : HK.isKeep (.av s) = false := rfl
@[simp] theorem keepB_no (gl : Nat → Option (List D)) (e : List D) (hs : List HK) (m : M) (h : hs.any HK.isKeep = false) : keepB gl base e hs m = true := by
  unfold keepB
  rw [h]; rfl
@[simp] theorem hids_nil (e : List D) : hids base e [] = [] := rfl
@[simp] theorem hids_fr (e : List D) (s : Nat) (l : List HK) : hids base e (.fr s :: l) = (base + s) :: hids base e l := rfl
theorem hids_at (e : List D) (s k : Nat) (l : List HK) (hk : atId (e.getD s .junk) = some k) : hids base e (.at s :: l) = k :: hids base e l := by
  unfold hids
  rw [List.filterMap_cons, id_at, hk]
theorem hids_at_none (e : List D) (s : Nat) (l : List HK) (hk : atId (e.getD s .junk) = none) : hids base e (.at s :: l) = hids base e l := by
  unfold hids
  rw [List.filterMap_cons, id_at, hk]
@[simp] theorem kill_nil (h : Heap) : h.kill [] = h := rfl
@[simp] theorem kill_cons (h : Heap) (k : Nat) (l : List Nat) : h.kill (k :: l) = (h.set k none).kill l := rfl
end

namespace Heap
def Fr (h : Heap) : Prop := ∀ k, h.next ≤ k → h.raw k = none
theorem Fr.empty : Fr .empty := fun _ _ => rfl
theorem Fr.bump {h : Heap} (f : h.Fr) (n : Nat) : (h.bump n).Fr := fun k hk => by
  rw [raw_bump]; exact f k (by simp at hk; omega)
theorem Fr.set {h : Heap} (f : h.Fr) {k : Nat} (b : Option Blk) (hk : k < h.next) : (h.set k b).Fr := fun j hj => by
  rw [next_set] at hj
  rw [raw_set_ne h b (by omega)]
  exact f j hj
@[simp] theorem raw_empty (k : Nat) : Heap.empty.raw k = none := by unfold Heap.raw Heap.empty; rfl
@[simp] theorem get_empty (k : Nat) : Heap.empty.get k = none := by unfold Heap.get; rw [raw_empty]; rfl
@[simp] theorem next_empty : Heap.empty.next = 0 := by unfold Heap.empty; rfl
theorem raw_bump' (h : Heap) (n k : Nat) : (h.bump n).raw k = h.raw k := by unfold Heap.raw Heap.bump; rfl
theorem get_bump' (h : Heap) (n k : Nat) : (h.bump n).get k = h.get k := by unfold Heap.get; rw [raw_bump']
theorem next_bump' (h : Heap) (n : Nat) : (h.bump n).next = h.next + n := by unfold Heap.bump; rfl
theorem next_set' (h : Heap) (k : Nat) (b : Option Blk) : (h.set k b).next = h.next := by unfold Heap.set; rfl
theorem raw_set (h : Heap) (k k' : Nat) (b : Option Blk) : (h.set k b).raw k' = if k' = k then some b else h.raw k' := by
  split
  · rename_i e; subst e; exact raw_set_same h k' b
  · rename_i e; exact raw_set_ne h b e
theorem get_set (h : Heap) (k k' : Nat) (b : Option Blk) : (h.set k b).get k' = if k' = k then pl b else h.get k' := by
  split
  · rename_i e; subst e; exact get_set_same h k' b
  · rename_i e; exact get_set_ne h b e
theorem alloc_of {h : Heap} {k : Nat} (hr : h.raw k = none) (B : Blk) : h.alloc k B = some (h.set k (some B)) := by unfold alloc; rw [hr]
end Heap
/-! ### Freezing -/
section
variable {h : Heap} {n : Nat}
theorem depth_is : depth = 24 := rfl
theorem frz_can {d : D} (hd : d.canon = true) : frz h (n + 1) d = some (d, []) := by unfold frz; rw [if_pos hd]
theorem frz_not {d : D} (hd : ¬ d.canon = true) {r : Option (D × List Nat)} (hr : frz h (n + 1) d = if d.canon = true then some (d, []) else r) : frz h (n + 1) d = r := by rw [hr, if_neg hd]
@[simp] theorem frz_int (k : IntKind) (i : Int) : frz h (n + 1) (.val (.int k i)) = some (.val (.int k i), []) := frz_can rfl
@[simp] theorem frz_bool (b : Bool) : frz h (n + 1) (.val (.bool b)) = some (.val (.bool b), []) := frz_can rfl
@[simp] theorem frz_string (b : ByteArray) : frz h (n + 1) (.val (.string b)) = some (.val (.string b), []) := frz_can rfl
@[simp] theorem frz_nil : frz h (n + 1) (.val (.slice none 0 0)) = some (.sl false [], []) := frz_not (by decide) rfl
@[simp] theorem frz_agg' (cs : List D) : frz h (n + 2) (.agg cs) = (each (frz h (n + 1)) cs).map fun p => (.agg p.1, p.2) := by
  by_cases hc : D.canonL cs = true
  · rw [each_canon h n cs hc]; exact frz_can (d := .agg cs) hc
  · exact frz_not (d := .agg cs) hc rfl
@[simp] theorem frz_tup (cs : List D) : frz h (n + 2) (.tup cs) = (each (frz h (n + 1)) cs).map fun p => (.tup p.1, p.2) := by
  by_cases hc : D.canonL cs = true
  · rw [each_canon h n cs hc]; exact frz_can (d := .tup cs) hc
  · exact frz_not (d := .tup cs) hc rfl
@[simp] theorem frz_sl (cs : List D) : frz h (n + 2) (.sl false cs) = (each (frz h (n + 1)) cs).map fun p => (.sl false p.1, p.2) := by
  by_cases hc : D.canonL cs = true
  · rw [each_canon h n cs hc]; exact frz_can (d := .sl false cs) (by simpa using hc)
  · exact frz_not (d := .sl false cs) (by simpa using hc) rfl
def frzS (h : Heap) (n k o m sz : Nat) (b : Option Blk) : Option (D × List Nat) := match b with
  | some (.cells _ cs) => if o + m * sz ≤ cs.length ∧ 0 < sz then (each (frz h n) ((cs.drop o).take (m * sz))).map fun p => (.sl false (chunk sz m p.1), k :: p.2) else none
  | _ => match h.fzd k with
    | some cs => if o + m * sz ≤ cs.length ∧ 0 < sz then some (.sl false (chunk sz m ((cs.drop o).take (m * sz))), []) else none
    | none => none
@[simp] theorem frzS_cells (k o m sz : Nat) (ty : TypeId) (cs : List D) : frzS h n k o m sz (some (.cells ty cs)) =
    if o + m * sz ≤ cs.length ∧ 0 < sz then (each (frz h n) ((cs.drop o).take (m * sz))).map fun p => (.sl false (chunk sz m p.1), k :: p.2) else none := by unfold frzS; rfl
@[simp] theorem frz_slr (k o m sz : Nat) (c : Option Nat) : frz h (n + 1) (.slr k o m sz c) = frzS h n k o m sz (h.get k) := by
  unfold frzS
  exact frz_not (d := .slr k o m sz c) (by simp [D.canon]) rfl
def frzP (h : Heap) (n k o : Nat) (b : Option Blk) : Option (D × List Nat) := match b with
  | some (.cells _ cs) => (each (frz h n) (cs.drop o)).map fun p => (.eref p.1, k :: p.2)
  | _ => (h.fzd k).map fun cs => (.eref (cs.drop o), [])
@[simp] theorem frzP_cells (k o : Nat) (ty : TypeId) (cs : List D) : frzP h n k o (some (.cells ty cs)) = (each (frz h n) (cs.drop o)).map fun p => (.eref p.1, k :: p.2) := by unfold frzP; rfl
@[simp] theorem frz_ptr (k o : Nat) : frz h (n + 1) (.ptr k o) = frzP h n k o (h.get k) := by
  unfold frzP
  exact frz_not (d := .ptr k o) (by simp [D.canon]) rfl
def frzF (f : Fn) (a b : Option (List D × List Nat)) : Option (D × List Nat) := match a, b with
  | some (fs, a), some (cs, b) => some (.fn f fs cs, a ++ b)
  | _, _ => none
@[simp] theorem frzF_some (f : Fn) (fs cs : List D) (a b : List Nat) : frzF f (some (fs, a)) (some (cs, b)) = some (.fn f fs cs, a ++ b) := by unfold frzF; rfl
@[simp] theorem frz_fn (f : Fn) (fs cs : List D) : frz h (n + 2) (.fn f fs cs) = frzF f (each (frz h (n + 1)) fs) (each (frz h (n + 1)) cs) := by
  by_cases hc : D.canonL fs = true ∧ D.canonL cs = true
  · rw [each_canon h n fs hc.1, each_canon h n cs hc.2]; exact frz_can (d := .fn f fs cs) (by simpa using hc)
  · unfold frzF; exact frz_not (d := .fn f fs cs) (by simpa using hc) rfl
def eachK (d : Option (D × List Nat)) (l : Option (List D × List Nat)) : Option (List D × List Nat) := match d, l with
  | some (d, a), some (l, b) => some (d :: l, a ++ b)
  | _, _ => none
@[simp] theorem eachK_some (d : D) (a : List Nat) (l : List D) (b : List Nat) : eachK (some (d, a)) (some (l, b)) = some (d :: l, a ++ b) := by unfold eachK; rfl
@[simp] theorem each_nil (f : D → Option (D × List Nat)) : each f [] = some ([], []) := by unfold each; rfl
@[simp] theorem each_cons (f : D → Option (D × List Nat)) (d : D) (l : List D) : each f (d :: l) = eachK (f d) (each f l) := by rw [each]; unfold eachK; rfl
end
theorem canonL_map {α : Type} (f : α → D) (hf : ∀ a, (f a).canon = true) : ∀ l : List α, D.canonL (l.map f) = true
  | [] => rfl
  | a :: l => by rw [List.map_cons, D.canonL, hf a, canonL_map f hf l]; rfl
@[simp] theorem each_ints (h : Heap) (n : Nat) (l : List Int) : each (frz h (n + 1)) (l.map fun i => D.val (.int .i64 i)) = some (l.map fun i => D.val (.int .i64 i), []) := each_canon h n _ (canonL_map _ (fun _ => rfl) l)
/-! ### Appending -/
section
variable {h : Heap} {t et sz bytes m : Nat} {news : List D}
def srcS (_h : Heap) (sz : Nat) (o n sz' : Nat) (f : Option (List D)) (b : Option Blk) : Option (Nat × List D) := match rdB b f with
  | some cs => if sz' = sz ∧ o + n * sz ≤ cs.length then some (n, (cs.drop o).take (n * sz)) else none
  | none => none
@[simp] theorem srcS_cells (o n sz' : Nat) (ty : TypeId) (cs : List D) (f : Option (List D)) : srcS h sz o n sz' f (some (.cells ty cs)) = if sz' = sz ∧ o + n * sz ≤ cs.length then some (n, (cs.drop o).take (n * sz)) else none := by unfold srcS; rfl
@[simp] theorem src_slr (k o n sz' : Nat) (c : Option Nat) : src h sz (.slr k o n sz' c) = srcS h sz o n sz' (h.fzd k) (h.get k) := by unfold src srcS rdB Heap.rdc; rfl
@[simp] theorem src_sl (z : Bool) (es : List D) : src h sz (.sl z es) = if es.all (fun e => e.cells.length == sz) then some (es.length, es.flatMap D.cells) else none := by unfold src; rfl
def apK (t et sz bytes : Nat) (h : Heap) (x : D) (o : Option (Nat × List D)) : Option (D × Heap) := match o with
  | some (m, news) =>
    if news.all D.one then
      if m = 0 then (match x with
        | .val (.slice none 0 0) | .sl _ _ | .slr .. => some (x, h)
        | _ => none)
      else appD t et sz bytes h x m news
    else none
  | none => none
theorem apK_some (x : D) (h1 : news.all D.one = true) (h2 : m ≠ 0) : apK t et sz bytes h x (some (m, news)) = appD t et sz bytes h x m news := by
  unfold apK; simp only [h1, h2, if_true, if_false]
theorem apK_zero_slr (k o n sz' : Nat) (c : Option Nat) : apK t et sz bytes h (.slr k o n sz' c) (some (0, [])) = some (.slr k o n sz' c, h) := by unfold apK; simp
@[simp] theorem appendD_is (x y : D) : appendD t et sz bytes h x y = apK t et sz bytes h x (src h sz y) := by unfold appendD apK; rfl
@[simp] theorem appD_nil : appD t et sz bytes h (.val (.slice none 0 0)) m news = if m * bytes ≤ room ∧ m ≤ maxLen then (h.alloc t (.cells et news)).map fun h => (.slr t 0 m sz none, h) else none := by unfold appD; rfl
def appS (t et sz bytes : Nat) (h : Heap) (m : Nat) (news : List D) (k o n sz' : Nat) (c : Option Nat) (b : Option Blk) : Option (D × Heap) := match b with
  | some (.cells ty cs) =>
      let p := o + n * sz
      if sz' = sz ∧ p ≤ cs.length ∧ (n + m) * bytes ≤ room ∧ n + m ≤ maxLen then
        match c with
        | none =>
          if p + m * sz ≤ cs.length then some (.slr k o (n + m) sz c, h.set k (some (.cells ty (cs.take p ++ news ++ cs.drop (p + m * sz)))))
          else if o = 0 ∧ ty = et then ((h.set k none).alloc t (.cells et (cs.take p ++ news))).map fun h => (.slr t 0 (n + m) sz none, h)
          else none
        | some c' =>
          if n + m ≤ c' then some (.slr k o (n + m) sz c, h.set k (some (.cells ty (cs.take p ++ news ++ cs.drop (p + m * sz)))))
          else (h.alloc t (.cells et ((cs.drop o).take (n * sz) ++ news))).map fun h => (.slr t 0 (n + m) sz none, h)
      else none
  | _ => none
@[simp] theorem appD_slr (k o n sz' : Nat) (c : Option Nat) : appD t et sz bytes h (.slr k o n sz' c) m news = appS t et sz bytes h m news k o n sz' c (h.get k) := by unfold appD appS; rfl
theorem appS_none {k n : Nat} {cs : List D} (hl : cs.length = n * sz) (h0 : 0 < m * sz) (hr : (n + m) * bytes ≤ room) (hm : n + m ≤ maxLen) :
    appS t et sz bytes h m news k 0 n sz none (some (.cells et cs)) = ((h.set k none).alloc t (.cells et (cs ++ news))).map fun h => (.slr t 0 (n + m) sz none, h) := by
  unfold appS
  have e1 : cs.take (0 + n * sz) = cs := List.take_of_length_le (by omega)
  simp only [hr, hm, e1, and_self, if_true, show 0 + n * sz ≤ cs.length by omega, show ¬ 0 + n * sz + m * sz ≤ cs.length by omega, if_false]
end
theorem chunk_flatMap {α : Type} {sz : Nat} (f : α → List D) (hs : sz ≠ 1) (hf : ∀ a, (f a).length = sz) : ∀ (l : List α) (n : Nat), n = l.length → chunk sz n (l.flatMap f) = l.map fun a => .agg (f a)
  | [], n, h => by subst h; rfl
  | a :: l, n, h => by
    subst h
    rw [List.length_cons, chunk, if_neg hs, List.flatMap_cons, List.map_cons, List.take_left' (hf a), List.drop_left' (hf a), chunk_flatMap f hs hf l _ rfl]
theorem length_flatMap {α : Type} {sz : Nat} (f : α → List D) (hf : ∀ a, (f a).length = sz) : ∀ (l : List α), (l.flatMap f).length = l.length * sz
  | [] => by simp
  | a :: l => by rw [List.flatMap_cons, List.length_append, hf a, length_flatMap f hf l, List.length_cons, Nat.succ_mul]; omega
theorem canonL_flatMap {α : Type} (f : α → List D) (hf : ∀ a, D.canonL (f a) = true) : ∀ l : List α, D.canonL (l.flatMap f) = true
  | [] => rfl
  | a :: l => by
    have app : ∀ x y : List D, D.canonL x = true → D.canonL y = true → D.canonL (x ++ y) = true := by
      intro x y
      induction x with
      | nil => intro _ hy; simpa using hy
      | cons d x ih =>
        intro hx hy
        simp only [D.canonL, Bool.and_eq_true, List.cons_append] at hx ⊢
        exact ⟨hx.1, ih hx.2 hy⟩
    rw [List.flatMap_cons]
    exact app _ _ (hf a) (canonL_flatMap f hf l)

def endH (R : Rc) (rs : List (ResultVar × Bool × Nat)) (x : Option (Ex × St)) : Option (Out × Heap) := match x with
  | some (.normal, s) => finish R rs none s
  | some (.ret, s) => finish R rs none s
  | some (.pan d, s) => finish R rs (some d) s
  | _ => none
@[simp] theorem endH_normal (R : Rc) (rs : List (ResultVar × Bool × Nat)) (s : St) : endH R rs (some (.normal, s)) = finish R rs none s := by unfold endH; rfl
@[simp] theorem endH_ret (R : Rc) (rs : List (ResultVar × Bool × Nat)) (s : St) : endH R rs (some (.ret, s)) = finish R rs none s := by unfold endH; rfl
@[simp] theorem endH_pan (R : Rc) (rs : List (ResultVar × Bool × Nat)) (d : D) (s : St) : endH R rs (some (.pan d, s)) = finish R rs (some d) s := by unfold endH; rfl
theorem fn_body {pg : Pg} {n : Nat} {f : FuncId} {args : List D} {N : Nat} {sh : Bool} {rs : List (ResultVar × Bool × Nat)} {cd : Cd} {h : Heap} (hn : 0 < n) (hc : pg.code f = some ⟨N, sh, rs, cd⟩) (hl : Nat.ble args.length N = true) :
    ∃ m, n = m + 1 ∧ (rc pg n).fn f args h = endH (rc pg m) rs (cd.ev ⟨pg, N, none⟩ (rc pg m) { e := (Env.ini N args).l, h, df := [] }) := by
  obtain ⟨m, rfl⟩ := more_of (show 1 ≤ n from hn)
  have hl' := Nat.le_of_ble_eq_true hl
  refine ⟨m, rfl, ?_⟩
  show fnBody pg (rc pg m) f args h = _
  unfold fnBody
  rw [hc]
  simp only [hl', if_true]
  rw [Env.start_ini (fc := ⟨N, sh, rs, cd⟩) _ hl']
  rfl

/-! ### Loops over functions -/
structure Heap.Gr (h h' : Heap) : Prop where
  next : h.next ≤ h'.next
  raw : ∀ k, k < h.next → h'.raw k = h.raw k
  fr : h.Fr → h'.Fr
theorem Heap.Gr.refl (h : Heap) : h.Gr h := ⟨Nat.le_refl _, fun _ _ => rfl, id⟩
theorem Heap.Gr.bump {h h' : Heap} (g : h.Gr h') (n : Nat) : h.Gr (h'.bump n) := ⟨by rw [Heap.next_bump']; have := g.next; omega, fun k hk => by rw [Heap.raw_bump']; exact g.raw k hk, fun f => (g.fr f).bump n⟩
theorem Heap.Gr.set {h h' : Heap} (g : h.Gr h') {k : Nat} (b : Option Blk) (h1 : h.next ≤ k) (h2 : k < h'.next) : h.Gr (h'.set k b) :=
  ⟨by rw [Heap.next_set']; exact g.next, fun j hj => by rw [Heap.raw_set_ne h' b (by omega)]; exact g.raw j hj, fun f => (g.fr f).set b h2⟩
theorem Heap.Gr.get {h h' : Heap} (g : h.Gr h') {k : Nat} (hk : k < h.next) : h'.get k = h.get k := by unfold Heap.get; rw [g.raw k hk]

def Ex.fine : Ex → Bool
  | .pan _ => false
  | _ => true
theorem Res.rangeF {c : Cfg} {R : Rc} {s : St} {x : X} {ps : List Nat} {as bd : Cd} {f : FuncId} {fs cs : List D} {Q : Ex → St → Prop} (hr : c.r = none) (hx : rd c.pg.gl s.e x = .fn (.func f) fs cs) (hf : s.h.Fr)
    (hc : ∃ d h3 q, R.fn f ((fs ++ [.yld (s.h.next + 1)]) ++ cs) (((s.h.bump 2).set s.h.next (some .mark)).set (s.h.next + 1) (some (.loop { e := s.e, ps, as, bd, dn := s.h.next, st := .ready, pe := .normal }))) = some (.ret d, h3) ∧
      h3.get (s.h.next + 1) = some (.loop q) ∧ q.st ≠ .busy ∧ q.pe.fine = true ∧ Q q.pe { e := s.e, h := h3.set (s.h.next + 1) (some (.loop { q with st := .exhausted })), df := .mark s.h.next :: s.df }) :
    Res (Cd.ev c R (.rangeF x ps as bd) s) Q := by
  obtain ⟨d, h3, q, h1, h2, h4, h5, h6⟩ := hc
  have a1 : (s.h.bump 2).alloc s.h.next .mark = some ((s.h.bump 2).set s.h.next (some .mark)) := Heap.alloc_of (by rw [Heap.raw_bump']; exact hf _ (Nat.le_refl _)) _
  have a2 : ∀ B, ((s.h.bump 2).set s.h.next (some .mark)).alloc (s.h.next + 1) B = some (((s.h.bump 2).set s.h.next (some .mark)).set (s.h.next + 1) (some B)) := fun B =>
    Heap.alloc_of (by rw [Heap.raw_set_ne _ _ (by omega), Heap.raw_bump']; exact hf _ (by omega)) _
  refine ⟨q.pe, _, ?_, h6⟩
  rw [Cd.ev]
  simp only [hr, a1, Option.map_some, a2, hx, h1, h2, h4, if_false]
  cases hq : q.pe with
  | pan d => rw [hq] at h5; cases h5
  | _ => rfl

def Lp.busy (q : Lp) : Lp := { q with st := .busy }
def Lp.over (q : Lp) (x : Ex) : Lp := { q with st := if x.code.isNone then .ready else .done, pe := x }
@[simp] theorem set_env {N : Nat} (x : Env N) (n : Nat) (d : D) : x.l.set n d = (x.upd n d).l := rfl

attribute [-simp] Heap.raw_bump Heap.get_bump Heap.next_bump Heap.next_set Heap.raw_set_same Heap.get_set_same
attribute [simp] Heap.raw_bump' Heap.get_bump' Heap.next_bump' Heap.next_set' M.tch Heap.get_set Heap.raw_set Heap.alloc_of mapOf findD fillD hids_at hids_at_none depth_is
end Go.Em
