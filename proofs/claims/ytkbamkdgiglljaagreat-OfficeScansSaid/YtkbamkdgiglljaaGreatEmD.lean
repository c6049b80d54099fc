/- What calls and code do, with so much fuel. -/
import Derived.Test.YtkbamkdgiglljaaGreatEmA
noncomputable section
namespace Go.Em
open Go Go.RowKit

def each (f : D → Option (D × List Nat)) : List D → Option (List D × List Nat)
  | [] => some ([], [])
  | d :: l => match f d, each f l with
    | some (d, a), some (l, b) => some (d :: l, a ++ b)
    | _, _ => none
def eachE (f : D → Option (D × List Nat)) : List (D × D) → Option (List (D × D) × List Nat)
  | [] => some ([], [])
  | (k, v) :: l => match f k, f v, eachE f l with
    | some (k, a), some (v, b), some (l, c) => some ((k, v) :: l, a ++ b ++ c)
    | _, _, _ => none

def frz (h : Heap) : Nat → D → Option (D × List Nat)
  | 0, _ => none
  | n + 1, d => if d.canon then some (d, []) else match d with
    | .val (.slice none 0 0) => some (.sl false [], [])
    | .val (.map none) => some (.map [], [])
    | .agg cs => (each (frz h n) cs).map fun p => (.agg p.1, p.2)
    | .tup cs => (each (frz h n) cs).map fun p => (.tup p.1, p.2)
    | .eref cs => (each (frz h n) cs).map fun p => (.eref p.1, p.2)
    | .fn f fs cs => match each (frz h n) fs, each (frz h n) cs with
      | some (fs, a), some (cs, b) => some (.fn f fs cs, a ++ b)
      | _, _ => none
    | .iface t d => (frz h n d).map fun p => (.iface t p.1, p.2)
    | .sle => some (.sl false [], [])
    | .sl _ es => (each (frz h n) es).map fun p => (.sl false p.1, p.2)
    | .map es => (eachE (frz h n) es).map fun p => (.map p.1, p.2)
    | .ptr k o => match h.get k with
      | some (.cells _ cs) => (each (frz h n) (cs.drop o)).map fun p => (.eref p.1, k :: p.2)
      | _ => (h.fzd k).map fun cs => (.eref (cs.drop o), [])
    | .slr k o m sz _ => match h.get k with
      | some (.cells _ cs) => if o + m * sz ≤ cs.length ∧ 0 < sz then (each (frz h n) ((cs.drop o).take (m * sz))).map fun p => (.sl false (chunk sz m p.1), k :: p.2) else none
      | _ => match h.fzd k with
        | some cs => if o + m * sz ≤ cs.length ∧ 0 < sz then some (.sl false (chunk sz m ((cs.drop o).take (m * sz))), []) else none
        | none => none
    | .mapr k => match h.get k with
      | some (.map es) => (eachE (frz h n) es).map fun p => (.map p.1, k :: p.2)
      | _ => none
    | _ => none
def depth : Nat := 24

def Heap.kill (h : Heap) : List Nat → Heap
  | [] => h
  | k :: l => Heap.kill (h.set k none) l
theorem Heap.kill_fzd (k : Nat) : ∀ (U : List Nat) (h : Heap), (h.kill U).fzd k = if k ∈ U then none else h.fzd k
  | [], h => by simp [Heap.kill]
  | j :: U, h => by
    simp only [Heap.kill]
    rw [Heap.kill_fzd k U, Heap.fzd_set]
    by_cases h1 : k ∈ U
    · simp [h1]
    · by_cases h2 : k = j <;> simp [h1, h2]

theorem Heap.vget_of_kill {k : Nat} {cs : List D} : ∀ (S : List Nat) (h : Heap), (h.kill S).vget k = some cs → h.vget k = some cs ∧ ∀ B, h.raw k = some (some B) → (h.kill S).raw k = some (some B)
  | [], h, x => ⟨x, fun _ r => r⟩
  | j :: S, h, x => by
    obtain ⟨h1, h2⟩ := Heap.vget_of_kill S _ x
    obtain ⟨i1, i2, _⟩ := Heap.vget_of_set rfl h1
    exact ⟨i2, fun B r => h2 B (by rw [Heap.raw_set_ne _ _ i1]; exact r)⟩
def coolD (h : Heap) (ks : List Nat) (d : D) : D := match frz h depth d with
  | some (d, l) => if l.all ks.contains = true then d else .junk
  | none => .junk
def coolL (h : Heap) (ks : List Nat) : List Nat → List (Nat × List D)
  | [] => []
  | k :: l => match h.get k with
    | some (.cells _ cs) => (k, cs.map (coolD h ks)) :: coolL h ks l
    | _ => coolL h ks l
def Heap.cool (h : Heap) (ks : List Nat) : Heap := { h.kill ks with z := coolL h ks ks ++ (h.kill ks).z }

inductive Out where
  | ret (d : D)
  | pan (d : D)

structure St where
  e : List D
  h : Heap
  df : List Df

structure Cfg where
  pg : Pg
  N : Nat
  r : Option Nat

structure Rc where
  fn : FuncId → List D → Heap → Option (Out × Heap)
  yl : Nat → List D → Heap → Option (Out × Heap)
  lp : Cfg → Cd → St → Option (Ex × St)
  df : FuncId → List D → Option D → Heap → Option (Option D × Heap)

def pureCall (R : Rc) (f : FuncId) (args : List D) : Option Out :=
  match R.fn f args .empty with
  | some (.ret r, h) => (frz h depth r).map fun p => .ret p.1
  | some (.pan r, h) => (frz h depth r).map fun p => .pan p.1
  | none => none
mutual
def eqq : D → D → Bool
  | .val (.int k a), .val (.int k' b) => decide (k = k') && decide (a = b)
  | .val (.bool a), .val (.bool b) => a == b
  | .val (.string a), .val (.string b) => a.data.toList == b.data.toList
  | .val (.slice none 0 0), .val (.slice none 0 0) => true
  | .agg l, .agg m => eqqL l m
  | .tup l, .tup m => eqqL l m
  | .eref l, .eref m => eqqL l m
  | .sle, .sle => true
  | .junk, .junk => true
  | .sl z l, .sl y m => (z == y) && eqqL l m
  | .ptr a b, .ptr c d => decide (a = c) && decide (b = d)
  | .slr k o n sz c, .slr k' o' n' sz' c' => decide (k = k') && decide (o = o') && decide (n = n') && decide (sz = sz') && decide (c = c')
  | .mapr a, .mapr b => decide (a = b)
  | _, _ => false
def eqqL : List D → List D → Bool
  | [], [] => true
  | a :: l, b :: m => eqq a b && eqqL l m
  | _, _ => false
end
mutual
theorem eqq_eq : ∀ {a b : D}, eqq a b = true → a = b
  | .val (.int k a), .val (.int k' b), h => by
    simp only [eqq, Bool.and_eq_true, decide_eq_true_eq] at h
    rw [h.1, h.2]
  | .val (.bool a), .val (.bool b), h => by
    simp only [eqq, beq_iff_eq] at h
    rw [h]
  | .val (.string ⟨a⟩), .val (.string ⟨b⟩), h => by
    simp only [eqq, beq_iff_eq] at h
    rw [Array.toList_inj.1 h]
  | .val (.slice none 0 0), .val (.slice none 0 0), _ => rfl
  | .agg l, .agg m, h => by
    simp only [eqq] at h
    rw [eqqL_eq h]
  | .tup l, .tup m, h => by
    simp only [eqq] at h
    rw [eqqL_eq h]
  | .eref l, .eref m, h => by
    simp only [eqq] at h
    rw [eqqL_eq h]
  | .sle, .sle, _ => rfl
  | .junk, .junk, _ => rfl
  | .sl z l, .sl y m, h => by
    simp only [eqq, Bool.and_eq_true, beq_iff_eq] at h
    rw [eqqL_eq h.2, h.1]
  | .ptr a b, .ptr c d, h => by
    simp only [eqq, Bool.and_eq_true, decide_eq_true_eq] at h
    rw [h.1, h.2]
  | .slr k o n sz c, .slr k' o' n' sz' c', h => by
    simp only [eqq, Bool.and_eq_true, decide_eq_true_eq] at h
    obtain ⟨⟨⟨⟨rfl, rfl⟩, rfl⟩, rfl⟩, rfl⟩ := h
    rfl
  | .mapr a, .mapr b, h => by
    simp only [eqq, decide_eq_true_eq] at h
    rw [h]
theorem eqqL_eq : ∀ {l m : List D}, eqqL l m = true → l = m
  | [], [], _ => rfl
  | a :: l, b :: m, h => by
    simp only [eqqL, Bool.and_eq_true] at h
    rw [eqq_eq h.1, eqqL_eq h.2]
end
def splitNil (R : Rc) (f : FuncId) : List D → Option Out
  | [.sl false []] => match pureCall R f [.val (.slice none 0 0)], pureCall R f [.sle] with
    | some (.ret (.sl false [])), some (.ret (.sl false [])) => some (.ret (.sl false []))
    | _, _ => none
  | _ => none
def orS (x y : Option Out) : Option Out := match x with
  | some o => some o
  | none => y
def splitAgg (R : Rc) (f : FuncId) : List D → Option Out
  | .agg (.sl false [] :: r) :: as => match pureCall R f (.agg (.val (.slice none 0 0) :: r) :: as), pureCall R f (.agg (.sle :: r) :: as) with
    | some (.ret a), some (.ret b) => if eqq a b = true then some (.ret a) else none
    | _, _ => none
  | _ => none
mutual
def alts : D → List D
  | .agg cs => (altsL cs).map .agg
  | .sl false [] => [.val (.slice none 0 0), .sle]
  | d => [d]
def altsL : List D → List (List D)
  | [] => [[]]
  | d :: l => (alts d).flatMap fun d => (altsL l).map fun l => d :: l
end
def sameRet (a : D) : Option Out → Bool
  | some (.ret b) => eqq a b
  | _ => false
def splitAll (R : Rc) (f : FuncId) (as : List D) : Option Out := match altsL as with
  | x :: y :: l => match pureCall R f x with
    | some (.ret a) => if ((y :: l).all fun z => sameRet a (pureCall R f z)) = true then some (.ret a) else none
    | _ => none
  | _ => none
def pureS (R : Rc) (f : FuncId) (args : List D) : Option Out := match pureCall R f args with
  | some o => some o
  | none => match splitNil R f args with
    | some o => some o
    | none => match splitAgg R f args with
      | some o => some o
      | none => splitAll R f args
theorem pureS_orS (R : Rc) (f : FuncId) (args : List D) : pureS R f args = orS (pureCall R f args) (orS (splitNil R f args) (orS (splitAgg R f args) (splitAll R f args))) := by
  unfold pureS orS
  cases pureCall R f args with
  | some o => rfl
  | none => cases splitNil R f args with
    | some o => rfl
    | none => cases splitAgg R f args <;> rfl
def Out.d : Out → D
  | .ret d => d
  | .pan d => d
def Out.isPan : Out → Bool
  | .ret _ => false
  | .pan _ => true
def fullD (m c : Nat) : D → D
  | .sl false es => if m = c then .sl true es else .sl false es
  | d => d
def pureT (R : Rc) (f : FuncId) : Option Out := match R.fn f [] .empty with
  | some (.ret (.slr k o m sz (some c)), h) => (frz h depth (.slr k o m sz (some c))).map fun p => .ret (fullD m c p.1)
  | _ => pureS R f []
def pureA (R : Rc) (f : FuncId) : List D → List D → Option Out
  | [], _ => pureT R f
  | _ :: _, as => pureS R f as
def Pg.sh (pg : Pg) (f : FuncId) : Bool := match pg.code f with
  | some c => c.sh
  | none => true
def call (pg : Pg) (R : Rc) (f : FuncId) (args : List D) (h : Heap) : Option (Out × Heap) :=
  if pg.sh f = true then (match R.fn f args h with
    | some p => some p
    | none => (splitNil R f args).map fun o => (o, h))
  else match each (frz h depth) args with
    | some (as, ks) => (pureA R f args as).map fun o => (o, if ks.isEmpty || o.d.flat then h else h.cool ks)
    | none => none

inductive Op1 where
  | ok (d : D) (s : St)
  | pan (d : D) (s : St)

def Cl.ev (c : Cfg) (R : Rc) (s : St) : Cl → Option Op1
  | .fn f args => match call c.pg R f (args.map (rd c.pg.gl s.e)) s.h with
    | some (.ret d, h) => some (.ok d { s with h })
    | some (.pan d, h) => some (.pan d { s with h })
    | none => none
  | .val _ x args => match rd c.pg.gl s.e x with
    | .fn (.func f) fs cs => match call c.pg R f ((fs ++ args.map (rd c.pg.gl s.e)) ++ cs) s.h with
      | some (.ret d, h) => some (.ok d { s with h })
      | some (.pan d, h) => some (.pan d { s with h })
      | none => none
    | .yld k => match R.yl k (args.map (rd c.pg.gl s.e)) s.h with
      | some (.ret d, h) => some (.ok d { s with h })
      | some (.pan d, h) => some (.pan d { s with h })
      | none => none
    | _ => none
  | .dfr x args => match c.r, rd c.pg.gl s.e x with
    | none, .fn (.func f) fs cs => some (.ok .junk { s with df := .call (.fn (.func f) fs cs) (args.map (rd c.pg.gl s.e)) :: s.df })
    | _, _ => none
  | .pan x => match rd c.pg.gl s.e x with
    | .iface t d => some (.pan (.iface t d) s)
    | _ => none
  | .rcv => none
  | .ixb _ args => match args.map (rd c.pg.gl s.e) with
    | [.val (.string b), .val (.int .u8 n)] => some (.ok (.val (match (List.range b.size).find? (fun i => b[i]! == n.toNat.toUInt8) with | some i => .int .i64 i | none => .int .i64 (-1))) s)
    | _ => none

def put (e : List D) (t : Option Nat) (d : D) : List D := match t with
  | some t => e.set t d
  | none => e

def G.ev (c : Cfg) (R : Rc) (base : Nat) (g : G) (s : St) : Option Op1 := match g.o with
  | .inl m => (m.ev c.pg.gl (base + g.d.getD 0) s.e s.h).map fun p => .ok p.1 { s with h := p.2 }
  | .inr q => q.ev c R s
def G.want (g : G) (e : List D) : Option Bool := match g.g with
  | none => some true
  | some (j, w) => match e.getD j .junk with
    | .val (.bool b) => some (b == w)
    | .tup _ => some false
    | _ => none

def known (c : Cfg) : D → Bool
  | .tup _ | .val .nilFunc | .yld _ => true
  | .fn (.func f) _ _ => (c.pg.code f).isSome
  | _ => false
def G.quiet (c : Cfg) (g : G) (e : List D) : Bool := match g.o with
  | .inr (.val true x _) => known c (rd c.pg.gl e x)
  | _ => true

def runG (c : Cfg) (R : Rc) (base : Nat) : List G → St → Option (Ex × St)
  | [], s => some (.normal, s)
  | g :: l, s => match g.want s.e with
    | some true => (match g.ev c R base s with
      | some (.ok d s') => runG c R base l { s' with e := put s'.e g.d d }
      | some (.pan d s') => some (.pan d, s')
      | none => none)
    | some false => if g.quiet c s.e = true then runG c R base l { s with e := put s.e g.d (.tup []) } else none
    | none => none

def HK.id (base : Nat) (e : List D) : HK → Option Nat
  | .fr s => some (base + s)
  | .at s => match e.getD s .junk with
    | .ptr k _ => some k
    | .slr k _ _ _ _ => some k
    | .mapr k => some k
    | _ => none
  | .keep _ => none
  | .av _ => none
def hids (base : Nat) (e : List D) (l : List HK) : List Nat := l.filterMap (HK.id base e)
def HK.kid (base : Nat) (e : List D) : HK → Option Nat
  | .keep s => HK.id base e (.at s)
  | _ => none
def HK.avid (base : Nat) (e : List D) : HK → Option Nat
  | .av s => HK.id base e (.at s)
  | _ => none
def HK.isKeep : HK → Bool
  | .keep _ => true
  | _ => false
def kids (base : Nat) (e : List D) (l : List HK) : List Nat := l.filterMap (HK.kid base e)
def avids (base : Nat) (e : List D) (l : List HK) : List Nat := l.filterMap (HK.avid base e)
def keepB (gl : Nat → Option (List D)) (base : Nat) (e : List D) (hs : List HK) (m : M) : Bool := !(hs.any HK.isKeep) || (match m with
  | .ld _ _ x => (match rd gl e x with
    | .ptr k _ => (kids base e hs).contains k
    | .eref _ => true
    | _ => false)
  | _ => false)
def M.kind : M → Nat
  | .mv .. | .pick .. | .bin .. | .eq .. | .not .. | .neg .. | .cvi .. | .nc .. | .fa .. | .iaa .. | .ias .. | .fd .. | .ixs .. | .ex .. | .len .. | .lens .. | .cap .. | .sls .. | .mkf .. | .mm .. | .mki .. | .ta .. | .bld .. | .s2b .. | .cpl .. | .ixa .. => 0
  | .b2s .. | .ld .. | .ldv .. | .slc .. | .lk .. | .alloc .. | .box .. | .bs .. | .bst .. | .mks .. | .mkm | .mkmc .. | .st .. | .app .. | .apl .. | .cpy .. | .clr .. => 1
  | _ => 2
def M.tch (gl : Nat → Option (List D)) (t : Nat) (e : List D) : M → List Nat
  | .alloc .. | .box .. | .bs .. | .bst .. | .mks .. | .mkm | .mkmc .. => [t]
  | .st _ x _ => match rd gl e x with
    | .ptr k _ => [k]
    | _ => []
  | .app _ _ _ x _ | .apl _ _ _ x _ => match rd gl e x with
    | .slr k _ _ _ _ => [k, t]
    | _ => [t]
  | .cpy _ x _ | .clr _ x => match (rd gl e x).wk with
    | .slr k _ _ _ _ => [k]
    | _ => []
  | _ => []
def thaw (ks : List Nat) (d : D) (h : Heap) : Heap := if (ks.isEmpty || d.flat) = true then h else h.kill ks
def mayKill (base : Nat) (e : List D) (ts hs : List HK) (pn : Bool) (ks : List Nat) : Bool :=
  ks.all (hids base e ts).contains && (ks.all fun k => !(hids base e hs).contains k && !(avids base e hs).contains k) && !pn
def eqqO : Option (List D) → Option (List D) → Bool
  | none, none => true
  | some l, some m => eqqL l m
  | _, _ => false
theorem eqqO_eq {a b : Option (List D)} (h : eqqO a b = true) : a = b := by
  cases a <;> cases b <;> simp only [eqqO] at h <;> first | rfl | (cases h; done) | exact congrArg some (eqqL_eq h)
def sameAt (l : List Nat) (h h' : Heap) : Bool := (l.all fun k => eqqO (h'.rdc k) (h.rdc k)) || @decide (∀ k, k ∈ l → h'.rdc k = h.rdc k) (Classical.propDecidable _)
theorem sameAt_iff {l : List Nat} {h h' : Heap} : sameAt l h h' = true ↔ ∀ k, k ∈ l → h'.rdc k = h.rdc k := by
  unfold sameAt
  rw [Bool.or_eq_true]
  constructor
  · rintro (x | x)
    · exact fun k hk => eqqO_eq (List.all_eq_true.1 x k hk)
    · exact (@decide_eq_true_iff _ (Classical.propDecidable _)).1 x
  · exact fun x => .inr ((@decide_eq_true_iff _ (Classical.propDecidable _)).2 x)
def dcore (c : Cfg) (R : Rc) (base : Nat) (x : DG) (e : List D) (h : Heap) : Option (D × Heap) := match x.g.want e with
  | some false => if x.g.quiet c e = true then some (.tup [], h) else none
  | some true => match x.g.o, x.ts with
    | .inl m, none => m.ev c.pg.gl (base + x.g.d.getD 0) e h
    | .inl m, some ts => if ((x.hs.isEmpty || (m.ev c.pg.gl (base + x.g.d.getD 0) e (h.kill (hids base e x.hs))).isSome) && (m.tch c.pg.gl (base + x.g.d.getD 0) e).all (hids base e ts).contains && keepB c.pg.gl base e x.hs m && (m.tch c.pg.gl (base + x.g.d.getD 0) e).all fun k => !(avids base e x.hs).contains k) = true then
        m.ev c.pg.gl (base + x.g.d.getD 0) e h
      else none
    | .inr (.fn f args), some ts => if c.pg.sh f = true then none else match each (frz (h.kill (hids base e x.hs)) depth) (args.map (rd c.pg.gl e)) with
      | some (as, ks) => match pureA R f (args.map (rd c.pg.gl e)) as with
        | some o => if ((ks.isEmpty || o.d.flat || mayKill base e ts x.hs x.pn ks) && (o.isPan == x.pn)) = true then some (o.d, thaw ks o.d h) else none
        | none => none
      | none => none
    | .inr (.fn f args), none => if x.pn = true then none else match call c.pg R f (args.map (rd c.pg.gl e)) h with
      | some (.ret d, h') => if (x.hs.isEmpty || sameAt (avids base e x.hs) h h') = true then some (d, h') else none
      | _ => none
    | .inr (.val _ y args), some _ => match rd c.pg.gl e y with
      | .fn (.func f) fs cs => if c.pg.sh f = true then none else match each (frz (h.kill (hids base e x.hs)) depth) ((fs ++ args.map (rd c.pg.gl e)) ++ cs) with
        | some (as, ks) => match pureA R f ((fs ++ args.map (rd c.pg.gl e)) ++ cs) as with
          | some o => if ((ks.isEmpty || o.d.flat) && (o.isPan == x.pn)) = true then some (o.d, h) else none
          | none => none
        | none => none
      | _ => none
    | .inr (.val _ y args), none => if x.pn = true then none else match rd c.pg.gl e y with
      | .fn (.func f) fs cs => match call c.pg R f ((fs ++ args.map (rd c.pg.gl e)) ++ cs) h with
        | some (.ret d, h') => if (x.hs.isEmpty || sameAt (avids base e x.hs) h h') = true then some (d, h') else none
        | _ => none
      | _ => none
    | _, _ => none
  | none => none
def dstep (c : Cfg) (R : Rc) (base : Nat) (x : DG) (s : St) : Option St := (dcore c R base x s.e s.h).map fun p => { s with e := put s.e x.g.d p.1, h := p.2 }
def runDr (c : Cfg) (R : Rc) (base : Nat) : List DG → St → Option St
  | [], s => some s
  | x :: l, s => match dstep c R base x s with
    | some s' => runDr c R base l s'
    | none => none

def DG.light (x : DG) : Bool := match x.g.o with
  | .inl m => decide (m.kind = 0)
  | .inr _ => false
def DG.local (x : DG) : Bool := match x.g.o with
  | .inl m => decide (m.kind = 0) || decide (m.kind = 1)
  | .inr _ => true
def otherD : Option Nat → Option Nat → Bool
  | some a, some b => decide (a ≠ b)
  | _, _ => true
def HK.isFr : HK → Bool
  | .fr _ => true
  | _ => false
def DG.fresh (x : DG) : Bool := match x.ts with
  | some ts => x.local && ts.all HK.isFr
  | none => x.light
def HK.frId (base : Nat) : HK → Option Nat
  | .fr s => some (base + s)
  | _ => none
def DG.frs (base : Nat) (x : DG) : List Nat := (x.ts.getD []).filterMap (HK.frId base)
def panTail (c : Cfg) (R : Rc) (base : Nat) (all : List DG) (i : Nat) (x : DG) (l : List DG) (s : St) : Option D := match x.g.o, x.g.g, x.g.d with
  | .inr _, none, some t =>
    if ((all.filter fun y => !y.wt.testBit i).all DG.fresh && (all.take i ++ l.filter fun y => !y.wt.testBit i).all (fun y => otherD y.g.d (some t)) && decide (t < s.e.length)) = true then
      (runDr c R base ({ x with pn := true } :: l.filter fun y => !y.wt.testBit i) s).map fun r => r.e.getD t .junk
    else none
  | _, _, _ => none
def runDrP (c : Cfg) (R : Rc) (base : Nat) (all : List DG) : Nat → List DG → St → Option D
  | _, [], _ => none
  | i, x :: l, s => match dstep c R base x s with
    | some s' => runDrP c R base all (i + 1) l s'
    | none => panTail c R base all i x l s
def panSt (base N : Nat) (ops : List DG) (s : St) : St := { s with e := ops.foldl (fun e x => put e x.g.d .junk) s.e, h := (s.h.bump N).kill (ops.flatMap (DG.frs base)) }

def Cd.ev (c : Cfg) (R : Rc) : Cd → St → Option (Ex × St)
  | .skip, s => some (.normal, s)
  | .region ops, s => runG c R s.h.next ops { s with h := s.h.bump c.N }
  | .draw ops, s => match runDr c R s.h.next ops { s with h := s.h.bump c.N } with
    | some s' => some (.normal, s')
    | none => (runDrP c R s.h.next ops 0 ops { s with h := s.h.bump c.N }).map fun d => (.pan d, panSt s.h.next c.N ops s)
  | .seq a b, s => match a.ev c R s with
    | some (.normal, s') => b.ev c R s'
    | o => o
  | .cond x a b, s => match rd c.pg.gl s.e x with
    | .val (.bool true) => a.ev c R s
    | .val (.bool false) => b.ev c R s
    | _ => none
  | .block id a, s => match a.ev c R s with
    | some (.exit i, s') => if i = id then some (.normal, s') else some (.exit i, s')
    | o => o
  | .loop a, s => R.lp c a s
  | .scope a, s => a.ev c R s
  | .exit id, s => some (.exit id, s)
  | .ret, s => some (.ret, s)
  | .rangeF x ps as bd, s =>
    let m := s.h.next
    let h0 := s.h.bump 2
    match (match c.r with
      | none => (h0.alloc m .mark).map fun h => (h, m, Df.mark m :: s.df)
      | some r => match h0.get r with
        | some (.loop q) => some (h0, q.dn, s.df)
        | _ => none) with
    | some (h1, dn, df) => match h1.alloc (m + 1) (.loop { e := s.e, ps, as, bd, dn, st := .ready, pe := .normal }) with
      | some h2 => match rd c.pg.gl s.e x with
        | .fn (.func f) fs cs => match R.fn f ((fs ++ [.yld (m + 1)]) ++ cs) h2 with
          | some (.ret _, h3) => match h3.get (m + 1) with
            | some (.loop q) => if q.st = .busy then none else (match q.pe with
              | .pan _ => none
              | x => some (x, { e := s.e, h := h3.set (m + 1) (some (.loop { q with st := .exhausted })), df }))
            | _ => none
          | some (.pan d, h3) => some (.pan d, { e := s.e, h := h3, df })
          | none => none
        | _ => none
      | none => none
    | none => none

def yieldEv (pg : Pg) (R : Rc) (k : Nat) (args : List D) (h : Heap) : Option (Out × Heap) :=
  match h.get k with
  | some (.loop q) =>
    if args.length = q.ps.length ∧ q.st = .ready then
      match q.as.ev ⟨pg, q.e.length, some k⟩ R { e := (q.ps.zip args).foldl (fun e p => e.set p.1 p.2) q.e, h, df := [] } with
      | some (.normal, s1) => match s1.h.get k with
        | some (.loop q1) =>
          if q1.st = .ready ∧ s1.df.isEmpty = true then
            match q.bd.ev ⟨pg, q.e.length, some k⟩ R { s1 with h := s1.h.set k (some (.loop { q1 with st := .busy })) } with
            | some (x, s2) => match x with
              | .pan d => if s2.df.isEmpty then some (.pan d, s2.h) else none
              | x => match s2.h.get k with
                | some (.loop q2) => if s2.df.isEmpty then some (.ret (.bool x.code.isNone), s2.h.set k (some (.loop { q2 with st := if x.code.isNone then .ready else .done, pe := x }))) else none
                | _ => none
            | none => none
          else none
        | _ => none
      | _ => none
    else none
  | _ => none

def resD (h : Heap) (e : List D) : ResultVar → (Bool × Nat) → Option D
  | .tmp t, _ => some (e.getD t .junk)
  | .cell t _, (ag, n) => match e.getD t .junk with
    | .ptr k o => match h.get k with
      | some (.cells _ cs) => if o + n ≤ cs.length then some (if ag then .agg ((cs.drop o).take n) else cs.getD o .junk) else none
      | _ => none
    | _ => none
def resL (h : Heap) (e : List D) : List (ResultVar × Bool × Nat) → Option (List D)
  | [] => some []
  | (r, p) :: l => match resD h e r p, resL h e l with
    | some d, some ds => some (d :: ds)
    | _, _ => none
def packD : List D → D
  | [d] => d
  | ds => .tup ds

def leave (R : Rc) : List Df → Option D → Heap → Option (Option D × Heap)
  | [], m, h => some (m, h)
  | .mark k :: l, m, h => match h.get k with
    | some .mark => leave R l m (h.set k none)
    | _ => none
  | .call (.fn (.func f) fs cs) args :: l, m, h => match R.df f ((fs ++ args) ++ cs) m h with
    | some (m', h') => leave R l m' h'
    | none => none
  | _, _, _ => none

def FnCode.start (fc : FnCode) (args : List D) (h : Heap) : St := { e := args ++ List.replicate (fc.N - args.length) .junk, h, df := [] }
def finish (R : Rc) (rs : List (ResultVar × Bool × Nat)) (m : Option D) (s : St) : Option (Out × Heap) :=
  match leave R s.df m s.h with
  | some (none, h) => (resL h s.e rs).map fun ds => (.ret (packD ds), h)
  | some (some d, h) => some (.pan d, h)
  | none => none

def runGS (c : Cfg) (R : Rc) (base : Nat) : List G → St → Option D → Option (St × Option D)
  | [], s, p => some (s, p)
  | g :: l, s, p => match g.want s.e with
    | some true => (match g.o with
      | .inr .rcv => runGS c R base l { s with e := put s.e g.d (p.getD (.val .nilIface)) } none
      | .inr _ => none
      | .inl m => match m.ev c.pg.gl (base + g.d.getD 0) s.e s.h with
        | some (d, h) => runGS c R base l { s with e := put s.e g.d d, h } p
        | none => none)
    | some false => if g.quiet c s.e = true then runGS c R base l { s with e := put s.e g.d (.tup []) } p else none
    | none => none
def G.isRcv (g : G) : Bool := match g.o with
  | .inr .rcv => true
  | _ => false
def Cd.evS (c : Cfg) (R : Rc) : Cd → St → Option D → Option (Ex × St × Option D)
  | .region ops, s, p => if ops.any G.isRcv then (runGS c R s.h.next ops { s with h := s.h.bump c.N } p).map fun q => (.normal, q) else
    match Cd.ev c R (.region ops) s with
    | some (.pan _, _) => none
    | some (x, s') => some (x, s', p)
    | none => none
  | .seq a b, s, p => match a.evS c R s p with
    | some (.normal, s', p') => b.evS c R s' p'
    | o => o
  | .cond x a b, s, p => match rd c.pg.gl s.e x with
    | .val (.bool true) => a.evS c R s p
    | .val (.bool false) => b.evS c R s p
    | _ => none
  | a, s, p => match a.ev c R s with
    | some (.pan _, _) => none
    | some (x, s') => some (x, s', p)
    | none => none

def fnBody (pg : Pg) (R : Rc) (f : FuncId) (args : List D) (h : Heap) : Option (Out × Heap) := match pg.code f with
  | some fc => if args.length ≤ fc.N then (match fc.code.ev ⟨pg, fc.N, none⟩ R (fc.start args h) with
    | some (.normal, s) => finish R fc.rs none s
    | some (.ret, s) => finish R fc.rs none s
    | some (.pan d, s) => finish R fc.rs (some d) s
    | _ => none) else none
  | none => none
def dfBody (pg : Pg) (R : Rc) (f : FuncId) (args : List D) (m : Option D) (h : Heap) : Option (Option D × Heap) := match pg.code f with
  | some fc => if args.length ≤ fc.N then (match fc.code.evS ⟨pg, fc.N, none⟩ R (fc.start args h) m with
    | some (.normal, s, p) => if s.df.isEmpty then (resL s.h s.e fc.rs).map fun _ => (p, s.h) else none
    | some (.ret, s, p) => if s.df.isEmpty then (resL s.h s.e fc.rs).map fun _ => (p, s.h) else none
    | _ => none) else none
  | none => none
def lpBody (R : Rc) (c : Cfg) (a : Cd) (s : St) : Option (Ex × St) := match a.ev c R s with
  | some (.normal, s') => R.lp c a s'
  | o => o

def rc (pg : Pg) : Nat → Rc
  | 0 => ⟨fun _ _ _ => none, fun _ _ _ => none, fun _ _ _ => none, fun _ _ _ _ => none⟩
  | n + 1 => ⟨fnBody pg (rc pg n), yieldEv pg (rc pg n), lpBody (rc pg n), dfBody pg (rc pg n)⟩
end Go.Em
