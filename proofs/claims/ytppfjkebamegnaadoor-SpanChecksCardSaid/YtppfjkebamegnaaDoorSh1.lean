/- The document's closure: one row of one round, in place. -/
import Derived.Test.YtppfjkebamegnaaDoorEnc4
import Derived.Test.YtppfjkebamegnaaDoorWo1
import Derived.Test.YtppfjkebamegnaaDoorPl
import Derived.Test.YtppfjkebamegnaaDoorBnd
namespace Go.Proofs.YtppfjkebamegnaaDoor
open Go Go.Em Go.Em.Net
set_option maxRecDepth 100000
structure SrH (M : List Int) (n : Nat) (B : Nat → Nat → Int) (mb b1 : Nat) (ks : List Nat) (oc : Option Nat) (h0 h : Heap) : Prop where
  mat : Mat n B mb ks h
  only : Only ks h0 h
  box : h.get b1 = some (.cells 40 [intsD M, .slr mb 0 n 1 oc])
  bn : b1 < h.next
  bk : b1 ∉ ks
  fr : h.Fr
theorem SrH.bump {M : List Int} {n : Nat} {B : Nat → Nat → Int} {mb b1 : Nat} {ks : List Nat} {oc : Option Nat} {h0 h : Heap} (t : SrH M n B mb b1 ks oc h0 h) (z : Nat) : SrH M n B mb b1 ks oc h0 (h.bump z) :=
  ⟨t.mat.bump z, t.only.bump z, by simp [t.box], by have := t.bn; simp; omega, t.bk, t.fr.bump z⟩
theorem SrH.put {M : List Int} {n : Nat} {A B : Nat → Nat → Int} {mb b1 : Nat} {ks : List Nat} {oc : Option Nat} {h0 h : Heap} (t : SrH M n A mb b1 ks oc h0 h) {i k : Nat} (hi : i < n) (hk : ∀ hj : i < ks.length, ks[i] = k) (hB : ∀ a, a ≠ i → B a = A a) : SrH M n B mb b1 ks oc h0 (h.set k (some (.cells 3 (yCs n (B i))))) := by
  have hl := t.mat.len
  have hkm : k ∈ ks := by rw [← hk (by omega)]; exact List.getElem_mem _
  have hkn := t.mat.lt k hkm
  refine ⟨t.mat.put (B := B) hi hk (by simp) (fun q hq hk => by simp [hk]) (by simp) hB, ⟨by have := t.only.1; simp; omega, fun q h1 h2 => ?_⟩, ?_, by have := t.bn; simp; omega, t.bk, t.fr.set _ hkn.1⟩
  · have : q ≠ k := fun e => h2 (by rw [e]; exact hkm)
    simp [this, t.only.2 q h1 h2]
  · have : b1 ≠ k := fun e => t.bk (by rw [e]; exact hkm)
    simp [this, t.box]
def W0 (M : List Int) (n k i : Nat) (A : Nat → Nat → Int) (mb b1 : Nat) (ks : List Nat) (oc : Option Nat) (x0 : Env 89) (h0 : Heap) (c : Nat) (s : St) : Prop := ∃ (x : Env 89) (h : Heap) (j : Nat), s = ⟨x.l, h, []⟩ ∧ j + c = n ∧ (∀ q, q < 16 → q ≠ 5 → x.v q = x0.v q) ∧ x.v 20 = D.int n ∧ x.v 21 = D.int j ∧ SrH M n (rowR k i A j) mb b1 ks oc h0 h
end Go.Proofs.YtppfjkebamegnaaDoor
/- The document's closure: one round, in place. -/
namespace Go.Proofs.YtppfjkebamegnaaDoor
open Go Go.Em Go.Em.Net
set_option maxRecDepth 100000
def W1 (M : List Int) (n k : Nat) (N : Mx) (mb b1 : Nat) (ks : List Nat) (oc : Option Nat) (x0 : Env 89) (h0 : Heap) (c : Nat) (s : St) : Prop := ∃ (x : Env 89) (h : Heap) (i : Nat), s = ⟨x.l, h, []⟩ ∧ i + c = n ∧ (∀ q, q < 10 → q ≠ 4 → q ≠ 5 → x.v q = x0.v q) ∧ x.v 14 = D.int n ∧ x.v 15 = D.int i ∧ SrH M n (encM (stageT n k N i)) mb b1 ks oc h0 h ∧ ∀ q, q < i → comb N k q q = some 0
end Go.Proofs.YtppfjkebamegnaaDoor
/- The document's closure: all rounds, in place. -/
namespace Go.Proofs.YtppfjkebamegnaaDoor
open Go Go.Em Go.Em.Net
set_option maxRecDepth 100000
def W2 (M : List Int) (n : Nat) (E : Mx) (mb b1 : Nat) (ks : List Nat) (oc : Option Nat) (h0 : Heap) (c : Nat) (s : St) : Prop := ∃ (x : Env 89) (h : Heap) (k : Nat), s = ⟨x.l, h, []⟩ ∧ k + c = n ∧ x.v 1 = .ptr b1 0 ∧ x.v 8 = D.int n ∧ x.v 9 = D.int k ∧ SrH M n (encM (fw E k)) mb b1 ks oc h0 h ∧ ∀ q, q ≤ k → ∀ i, i < n → fw E q i i = some 0
end Go.Proofs.YtppfjkebamegnaaDoor
/- The document's closure: the function that lowers the numbers. -/
namespace Go.Proofs.YtppfjkebamegnaaDoor
open Go Go.Em Go.Em.Net
set_option maxRecDepth 100000
end Go.Proofs.YtppfjkebamegnaaDoor
/- The document's closure: the rows before the claims. -/
namespace Go.Proofs.YtppfjkebamegnaaDoor
open Go Go.Em Go.Em.Net
set_option maxRecDepth 100000
def rwY (i J : Nat) : Nat → Int := fun b => if b < J ∧ b ≠ i then 1000000000 else 0
/-- A list that grows. -/
def GY (ty len : Nat) (cs : List D) (h : Heap) (d : D) : Prop := (len = 0 ∧ d = .val (.slice none 0 0)) ∨ 0 < len ∧ ∃ k, d = .slr k 0 len 1 none ∧ h.get k = some (.cells ty cs) ∧ k < h.next
def V1 (l : List Clm) (M : List Int) (n b2 b4 : Nat) (c : Nat) (s : St) : Prop := ∃ (x : Env 101) (h : Heap) (i : Nat) (ks : List Nat) (d : D), s = ⟨x.l, h, []⟩ ∧ i + c = n ∧ x.v 0 = clsD l ∧ x.v 2 = .ptr b2 0 ∧ x.v 4 = .ptr b4 0 ∧ x.v 17 = D.int n ∧ x.v 18 = D.int i ∧ h.get b4 = some (.cells 40 [intsD M, d]) ∧ h.get b2 = some (.cells 40 [.val (.slice none 0 0), .val (.slice none 0 0)]) ∧ b4 < h.next ∧ b2 < h.next ∧ b2 ≠ b4 ∧ ks.length = i ∧ ks.Nodup ∧ (∀ q ∈ ks, q < h.next) ∧ (∀ j, ∀ hj : j < ks.length, h.get ks[j] = some (.cells 3 (yCs n (rwY j n)))) ∧ GY 31 i (ks.map (rowS n)) h d ∧ h.Fr
end Go.Proofs.YtppfjkebamegnaaDoor
/- The document's closure: the claims. -/
namespace Go.Proofs.YtppfjkebamegnaaDoor
open Go Go.Em Go.Em.Net
set_option maxRecDepth 100000
/-- The numbers after some claims. -/
def clmI (M : List Int) (A : Nat → Nat → Int) (c : Clm) : Nat → Nat → Int := lowI (lowI A ⟨0, false, placeF M c.a, placeF M c.b, c.hi⟩) ⟨0, true, placeF M c.b, placeF M c.a, -c.lo⟩
structure V2H (M : List Int) (n : Nat) (A : Nat → Nat → Int) (mb b2 b4 : Nat) (ks : List Nat) (h : Heap) : Prop where
  mat : Mat n A mb ks h
  g4 : h.get b4 = some (.cells 40 [intsD M, .slr mb 0 n 1 none])
  g2 : h.get b2 = some (.cells 40 [.val (.slice none 0 0), .val (.slice none 0 0)])
  n4 : b4 < h.next
  n2 : b2 < h.next
  fr : h.Fr
theorem V2H.bump {M : List Int} {n : Nat} {A : Nat → Nat → Int} {mb b2 b4 : Nat} {ks : List Nat} {h : Heap} (t : V2H M n A mb b2 b4 ks h) (z : Nat) : V2H M n A mb b2 b4 ks (h.bump z) :=
  ⟨t.mat.bump z, by simp [t.g4], by simp [t.g2], by have := t.n4; simp; omega, by have := t.n2; simp; omega, t.fr.bump z⟩
theorem V2H.new {M : List Int} {n : Nat} {A : Nat → Nat → Int} {mb b2 b4 : Nat} {ks : List Nat} {h : Heap} (t : V2H M n A mb b2 b4 ks h) {k : Nat} {ty : TypeId} {cs : List D} (b : Blk) (hk : k < h.next) (h1 : k ≠ mb) (h2 : k ≠ b4) (h3 : k ≠ b2) (h4 : k ∉ ks) : V2H M n A mb b2 b4 ks (h.set k (some b)) := by
  have hm := t.mat
  have hne : ∀ q, q ∈ ks → q ≠ k := fun q hq e => h4 (by rw [← e]; exact hq)
  exact ⟨⟨hm.len, by simp [Ne.symm h1, hm.top], hm.nd, fun q hq => by simpa using hm.lt q hq, fun j hj => by simp [hne _ (List.getElem_mem hj), hm.row j hj], by simpa using hm.mlt⟩, by simp [Ne.symm h2, t.g4], by simp [Ne.symm h3, t.g2], by simpa using t.n4, by simpa using t.n2, t.fr.set _ hk⟩
theorem V2H.put {M : List Int} {n : Nat} {A B : Nat → Nat → Int} {mb b2 b4 : Nat} {ks : List Nat} {h : Heap} (t : V2H M n A mb b2 b4 ks h) {i k : Nat} (hi : i < n) (hk : ∀ hj : i < ks.length, ks[i] = k) (hB : ∀ a, a ≠ i → B a = A a) : V2H M n B mb b2 b4 ks (h.set k (some (.cells 3 (yCs n (B i))))) := by
  have hl := t.mat.len
  have hkk := hk (by omega)
  have hkm : k ∈ ks := by rw [← hkk]; exact List.getElem_mem _
  have hkn := t.mat.lt k hkm
  have hrow : h.get k = some (.cells 3 (yCs n (A i))) := by rw [← hkk]; exact t.mat.row i (by omega)
  have h4 : b4 ≠ k := fun e => by have := t.g4; rw [e, hrow] at this; cases this
  have h2 : b2 ≠ k := fun e => by have := t.g2; rw [e, hrow] at this; cases this
  exact ⟨t.mat.put (B := B) hi hk (by simp) (fun q hq hk => by simp [hk]) (by simp) hB, by simp [h4, t.g4], by simp [h2, t.g2], by simpa using t.n4, by simpa using t.n2, t.fr.set _ hkn.1⟩
def V2 (l : List Clm) (M : List Int) (n : Nat) (mb b2 b4 : Nat) (ks : List Nat) (c : Nat) (s : St) : Prop := ∃ (x : Env 101) (h : Heap) (i : Nat), s = ⟨x.l, h, []⟩ ∧ i + c = l.length ∧ x.v 2 = .ptr b2 0 ∧ x.v 4 = .ptr b4 0 ∧ x.v 44 = clsD l ∧ x.v 45 = D.int l.length ∧ x.v 46 = D.int i ∧ V2H M n ((l.take i).foldl (clmI M) (farN n)) mb b2 b4 ks h
end Go.Proofs.YtppfjkebamegnaaDoor
/- The document's closure: the function. -/
namespace Go.Proofs.YtppfjkebamegnaaDoor
open Go Go.Em Go.Em.Net
set_option maxRecDepth 100000
end Go.Proofs.YtppfjkebamegnaaDoor
/- The program's closure is the document's: the law, by the evaluator. -/
namespace Go.Proofs.YtppfjkebamegnaaDoor
open Go Go.Em Go.Em.Net
set_option maxRecDepth 100000
end Go.Proofs.YtppfjkebamegnaaDoor
