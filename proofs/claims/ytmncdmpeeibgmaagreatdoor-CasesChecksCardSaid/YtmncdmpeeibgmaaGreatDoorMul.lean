/- One times a number, by package math/bits. -/
import Derived.Test.YtmncdmpeeibgmaaGreatDoorKp1
import Derived.Test.YtmncdmpeeibgmaaGreatDoorEmNet
import Derived.Test.YtmncdmpeeibgmaaGreatDoorWo1
import Derived.Test.YtmncdmpeeibgmaaGreatDoorKp1
namespace Go.Proofs.YtmncdmpeeibgmaaGreatDoor
open Go Go.Em
set_option maxRecDepth 100000
noncomputable def mulOk (m n : Nat) : Bool := match pureCall (rc pg (m + 3)) 152 [.val (.int .u64 1), .val (.int .u64 n)] with
  | some (.ret (.tup [.val (.int .u64 a), .val (.int .u64 b)])) => a == 0 && b == n
  | _ => false
end Go.Proofs.YtmncdmpeeibgmaaGreatDoor
/- A number, so many times, by package slices. -/
namespace Go.Proofs.YtmncdmpeeibgmaaGreatDoor
open Go Go.Em
set_option maxRecDepth 100000
end Go.Proofs.YtmncdmpeeibgmaaGreatDoor
/- Years that are lowered round by round, by the program. -/
namespace Go.Proofs.YtmncdmpeeibgmaaGreatDoor
open Go Go.Em Go.Em.Net
set_option maxRecDepth 100000
structure Mo where
  cl : Int
  bk : Bool
  fr : Nat
  to_ : Nat
  mo : Int
def its (mv : List Mv) : Nat → (Nat → Int) → Nat → Int
  | 0, y => y
  | r + 1, y => its mv r (mv.foldl relax y)
def yCs (n : Nat) (y : Nat → Int) : List D := (List.range n).map fun v => D.int (y v)
end Go.Proofs.YtmncdmpeeibgmaaGreatDoor
/- Years that are lowered round by round, by the program: all rounds; whether claims contradict. -/
namespace Go.Proofs.YtmncdmpeeibgmaaGreatDoor
open Go Go.Em Go.Em.Net
set_option maxRecDepth 100000
def z0 : Nat → Int := fun _ => 0
end Go.Proofs.YtmncdmpeeibgmaaGreatDoor
/- Whether claims contradict each other, by the program. -/
namespace Go.Proofs.YtmncdmpeeibgmaaGreatDoor
open Go Go.Em Go.Em.Net
set_option maxRecDepth 100000
end Go.Proofs.YtmncdmpeeibgmaaGreatDoor
/- Whether moves contradict each other; the moves along claims. -/
namespace Go.Proofs.YtmncdmpeeibgmaaGreatDoor
open Go Go.Em Go.Em.Net
set_option maxRecDepth 100000
end Go.Proofs.YtmncdmpeeibgmaaGreatDoor
/- The graph of claims: the claims that may be used (all of them). -/
namespace Go.Proofs.YtmncdmpeeibgmaaGreatDoor
open Go Go.Em Go.Em.Net
set_option maxRecDepth 100000
end Go.Proofs.YtmncdmpeeibgmaaGreatDoor
/- The graph of claims: the moves. -/
namespace Go.Proofs.YtmncdmpeeibgmaaGreatDoor
open Go Go.Em Go.Em.Net
set_option maxRecDepth 100000
end Go.Proofs.YtmncdmpeeibgmaaGreatDoor
/- The graph of claims, by the program. -/
namespace Go.Proofs.YtmncdmpeeibgmaaGreatDoor
open Go Go.Em Go.Em.Net
set_option maxRecDepth 100000
end Go.Proofs.YtmncdmpeeibgmaaGreatDoor
/- A net without bounds, by the program. -/
namespace Go.Proofs.YtmncdmpeeibgmaaGreatDoor
open Go Go.Em Go.Em.Net
set_option maxRecDepth 100000
def rowS (n k : Nat) : D := .slr k 0 n 1 (some n)
structure Mat (n : Nat) (A : Nat → Nat → Int) (mb : Nat) (ks : List Nat) (h : Heap) : Prop where
  len : ks.length = n
  top : h.get mb = some (.cells 33 (ks.map (rowS n)))
  nd : ks.Nodup
  lt : ∀ q ∈ ks, q < h.next ∧ q ≠ mb
  row : ∀ j, ∀ hj : j < ks.length, h.get ks[j] = some (.cells 3 (yCs n (A j)))
  mlt : mb < h.next
end Go.Proofs.YtmncdmpeeibgmaaGreatDoor
/- A number of a net is lowered, by the program. -/
namespace Go.Proofs.YtmncdmpeeibgmaaGreatDoor
open Go Go.Em Go.Em.Net
set_option maxRecDepth 100000
def Only (ks : List Nat) (h h' : Heap) : Prop := h.next ≤ h'.next ∧ ∀ q, q < h.next → q ∉ ks → h'.raw q = h.raw q
theorem Only.get {ks : List Nat} {h h' : Heap} (o : Only ks h h') {q : Nat} (h1 : q < h.next) (h2 : q ∉ ks) : h'.get q = h.get q := by unfold Heap.get; rw [o.2 q h1 h2]
theorem Only.trans {ks : List Nat} {a b c : Heap} (o : Only ks a b) (p : Only ks b c) : Only ks a c := ⟨Nat.le_trans o.1 p.1, fun q h1 h2 => by rw [p.2 q (Nat.lt_of_lt_of_le h1 o.1) h2, o.2 q h1 h2]⟩
theorem Mat.at {n : Nat} {A : Nat → Nat → Int} {mb : Nat} {ks : List Nat} {h : Heap} (m : Mat n A mb ks h) {i : Nat} (hi : i < n) : ∃ k, (∀ h', (ks.map (rowS n))[i]'h' = rowS n k) ∧ k ∈ ks ∧ (∀ hj : i < ks.length, ks[i] = k) ∧ h.get k = some (.cells 3 (yCs n (A i))) := by
  have hl := m.len
  exact ⟨ks[i], fun h' => by simp, List.getElem_mem _, fun _ => rfl, m.row i (by omega)⟩
theorem Mat.put {n : Nat} {A B : Nat → Nat → Int} {mb : Nat} {ks : List Nat} {h h' : Heap} (m : Mat n A mb ks h) {i : Nat} (hi : i < n) {k : Nat} (hk : ∀ hj : i < ks.length, ks[i] = k) (hg : h'.get k = some (.cells 3 (yCs n (B i)))) (ho : ∀ q, q < h.next → q ≠ k → h'.get q = h.get q) (hn : h.next ≤ h'.next) (hB : ∀ a, a ≠ i → B a = A a) : Mat n B mb ks h' := by
  have hl := m.len
  have hkk := hk (by omega)
  have hkm : k ∈ ks := by rw [← hkk]; exact List.getElem_mem _
  refine ⟨hl, ?_, m.nd, fun q hq => ⟨Nat.lt_of_lt_of_le (m.lt q hq).1 hn, (m.lt q hq).2⟩, fun j hj => ?_, Nat.lt_of_lt_of_le m.mlt hn⟩
  · rw [ho mb m.mlt (Ne.symm (m.lt k hkm).2)]; exact m.top
  · by_cases hji : j = i
    · subst hji; rw [hkk]; exact hg
    · have hne : ks[j] ≠ k := fun e => by
        rw [← hkk] at e
        have hp := List.pairwise_iff_getElem.1 m.nd
        rcases Nat.lt_or_gt_of_ne hji with h1 | h1
        · exact hp j i hj (by omega) h1 e
        · exact hp i j (by omega) hj h1 e.symm
      rw [ho _ (m.lt _ (List.getElem_mem hj)).1 hne, hB j hji]
      exact m.row j hj
end Go.Proofs.YtmncdmpeeibgmaaGreatDoor
/- The numbers of a net are lowered over one mark, by the program. -/
namespace Go.Proofs.YtmncdmpeeibgmaaGreatDoor
open Go Go.Em Go.Em.Net
set_option maxRecDepth 100000
structure ThrK (M : List Int) (n k mb bx : Nat) (rk : Nat) (x : Env 58) (i : Nat) : Prop where
  v1 : x.v 1 = D.int k
  v2 : x.v 2 = .ptr bx 0
  v4 : x.v 4 = rowS n rk
  v16 : x.v 16 = rowS n mb
  v17 : x.v 17 = D.int n
  v18 : x.v 18 = D.int i
structure ThrH (M : List Int) (n : Nat) (B : Nat → Nat → Int) (mb bx : Nat) (ks : List Nat) (h0 h : Heap) : Prop where
  mat : Mat n B mb ks h
  only : Only ks h0 h
  box : h.get bx = some (.cells 136 [intsD M, rowS n mb])
  bn : bx < h.next
  bm : bx ≠ mb
  bk : bx ∉ ks
  fr : h.Fr
theorem Mat.bump {n : Nat} {A : Nat → Nat → Int} {mb : Nat} {ks : List Nat} {h : Heap} (m : Mat n A mb ks h) (z : Nat) : Mat n A mb ks (h.bump z) :=
  ⟨m.len, by simp [m.top], m.nd, fun q hq => by have := m.lt q hq; simp; omega, fun j hj => by simp [m.row j hj], by have := m.mlt; simp; omega⟩
theorem Only.bump {ks : List Nat} {h h' : Heap} (o : Only ks h h') (z : Nat) : Only ks h (h'.bump z) := ⟨by have := o.1; simp; omega, fun q h1 h2 => by simp [o.2 q h1 h2]⟩
theorem ThrH.bump {M : List Int} {n : Nat} {B : Nat → Nat → Int} {mb bx : Nat} {ks : List Nat} {h0 h : Heap} (t : ThrH M n B mb bx ks h0 h) (z : Nat) : ThrH M n B mb bx ks h0 (h.bump z) :=
  ⟨t.mat.bump z, t.only.bump z, by simp [t.box], by have := t.bn; simp; omega, t.bm, t.bk, t.fr.bump z⟩
theorem ThrH.put {M : List Int} {n : Nat} {A B : Nat → Nat → Int} {mb bx : Nat} {ks : List Nat} {h0 h : Heap} (t : ThrH M n A mb bx ks h0 h) {i k : Nat} (hi : i < n) (hk : ∀ hj : i < ks.length, ks[i] = k) (hB : ∀ a, a ≠ i → B a = A a) : ThrH M n B mb bx ks h0 (h.set k (some (.cells 3 (yCs n (B i))))) := by
  have hl := t.mat.len
  have hkm : k ∈ ks := by rw [← hk (by omega)]; exact List.getElem_mem _
  have hkn := t.mat.lt k hkm
  refine ⟨t.mat.put (B := B) hi hk (by simp) (fun q hq hk => by simp [hk]) (by simp) hB, ⟨by have := t.only.1; simp; omega, fun q h1 h2 => ?_⟩, ?_, by have := t.bn; simp; omega, t.bm, t.bk, t.fr.set _ hkn.1⟩
  · have : q ≠ k := fun e => h2 (by rw [e]; exact hkm)
    simp [this, t.only.2 q h1 h2]
  · have : bx ≠ k := fun e => t.bk (by rw [e]; exact hkm)
    simp [this, t.box]
end Go.Proofs.YtmncdmpeeibgmaaGreatDoor
/- The numbers of a net are lowered over one mark, by the program: all rows. -/
namespace Go.Proofs.YtmncdmpeeibgmaaGreatDoor
open Go Go.Em Go.Em.Net
set_option maxRecDepth 100000
theorem Res.fin {o : Option (Ex × St)} {id : Nat} {R : Rc} {rs : List (ResultVar × Bool × Nat)} {P : Ex → St → Prop} {r : Out} {C : Heap → Prop} (h : Res o P)
    (hk : ∀ x s, P x s → ∃ h', endH R rs (blockK id (some (x, s))) = some (r, h') ∧ C h') : ∃ h', endH R rs (blockK id o) = some (r, h') ∧ C h' := by
  obtain ⟨x, s, rfl, p⟩ := h; exact hk x s p
end Go.Proofs.YtmncdmpeeibgmaaGreatDoor
