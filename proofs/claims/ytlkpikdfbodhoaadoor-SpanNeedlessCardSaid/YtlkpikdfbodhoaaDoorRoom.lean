/- The years that dated marks leave to a mark, by the program; the number that is picked. -/
import Derived.Test.YtlkpikdfbodhoaaDoorPl
import Derived.Test.YtlkpikdfbodhoaaDoorPl
import Derived.Test.YtlkpikdfbodhoaaDoorPl
namespace Go.Proofs.YtlkpikdfbodhoaaDoor
open Go Go.Em Go.Em.Net
set_option maxRecDepth 100000
def bCs (n : Nat) (dt : Nat → Bool) : List D := (List.range n).map fun i => D.bool (dt i)
end Go.Proofs.YtlkpikdfbodhoaaDoor
/- A mark is dated, by the program; years under way in the heap. -/
namespace Go.Proofs.YtlkpikdfbodhoaaDoor
open Go Go.Em Go.Em.Net
set_option maxRecDepth 100000
structure Dh (n : Nat) (y : Nat → Int) (dt : Nat → Bool) (yb db : Nat) (h : Heap) : Prop where
  hy : h.get yb = some (.cells 3 (yCs n y))
  hd : h.get db = some (.cells 4 (bCs n dt))
  yl : yb < h.next
  dl : db < h.next
  ne : yb ≠ db
theorem Dh.keep {n : Nat} {y : Nat → Int} {dt : Nat → Bool} {yb db : Nat} {h h' : Heap} (d : Dh n y dt yb db h) (hn : h.next ≤ h'.next) (hk : ∀ q, q < h.next → h'.get q = h.get q) : Dh n y dt yb db h' :=
  ⟨by rw [hk _ d.yl]; exact d.hy, by rw [hk _ d.dl]; exact d.hd, Nat.lt_of_lt_of_le d.yl hn, Nat.lt_of_lt_of_le d.dl hn, d.ne⟩
end Go.Proofs.YtlkpikdfbodhoaaDoor
/- Years of no mark yet, by the program; all marks are dated in turn. -/
namespace Go.Proofs.YtlkpikdfbodhoaaDoor
open Go Go.Em Go.Em.Net
set_option maxRecDepth 100000
end Go.Proofs.YtlkpikdfbodhoaaDoor
/- All marks are dated in turn, by the program: a round. -/
namespace Go.Proofs.YtlkpikdfbodhoaaDoor
open Go Go.Em Go.Em.Net
set_option maxRecDepth 100000
def dR (o : Option (Out × Heap)) : Option (D × Heap) := match o with
  | some (.ret d, h') => some (d, h')
  | _ => none
@[simp] theorem dR_ret (d : D) (h : Heap) : dR (some (.ret d, h)) = some (d, h) := by unfold dR; rfl
structure FillH (M : List Int) (A : Nat → Nat → Int) (p : List Int) (s0 : Fs) : Prop where
  len : M.length ≤ 64
  pl : p.length ≤ 4000000000000000000
  tl : s0.t ≤ 1000
  hA : ∀ a b, -1000000000000 ≤ A a b ∧ A a b ≤ 1000000000000
  hy : ∀ i, i ≤ M.length → ∀ j, j < M.length → -1000000000000 ≤ (fillN A M.length p s0 i).y j ∧ (fillN A M.length p s0 i).y j ≤ 1000000000000
  hr : ∀ i, i < M.length → (fillN A M.length p s0 i).dt i = false → (roomI A (fillN A M.length p s0 i).dt (fillN A M.length p s0 i).y i M.length).2.2 = false → -300000000 ≤ (roomI A (fillN A M.length p s0 i).dt (fillN A M.length p s0 i).y i M.length).1 ∧ (roomI A (fillN A M.length p s0 i).dt (fillN A M.length p s0 i).y i M.length).1 ≤ (roomI A (fillN A M.length p s0 i).dt (fillN A M.length p s0 i).y i M.length).2.1 ∧ (roomI A (fillN A M.length p s0 i).dt (fillN A M.length p s0 i).y i M.length).2.1 ≤ 300000000
structure FlH (h0 : Heap) (M : List Int) (A : Nat → Nat → Int) (L : List Dt) (s : Fs) (yb db bb lb : Nat) (h : Heap) : Prop where
  d : Dh M.length s.y s.dt yb db h
  b : h.get bb = some (.cells 115 [intsD M, rowsD M.length A, .slr yb 0 M.length 1 (some M.length), .slr db 0 M.length 1 (some M.length)])
  l : h.get lb = some (.cells 71 (L.flatMap dtC))
  bl : bb < h.next
  ll : lb < h.next
  ne : bb ≠ lb
  yq : yb < h0.next
  dq : db < h0.next
  b0 : h0.next ≤ bb
  l0 : h0.next ≤ lb
  fr : h.Fr
  nx : h0.next ≤ h.next
  un : ∀ q, q < h0.next → q ≠ yb → q ≠ db → h.raw q = h0.raw q
theorem FlH.bump {h0 : Heap} {M : List Int} {A : Nat → Nat → Int} {L : List Dt} {s : Fs} {yb db bb lb : Nat} {h : Heap} (f : FlH h0 M A L s yb db bb lb h) (z : Nat) : FlH h0 M A L s yb db bb lb (h.bump z) :=
  ⟨f.d.keep (by simp) (by simp), by simp [f.b], by simp [f.l], by have := f.bl; simp; omega, by have := f.ll; simp; omega, f.ne, f.yq, f.dq, f.b0, f.l0, f.fr.bump z, by have := f.nx; simp; omega, fun q h1 h2 h3 => by simpa using f.un q h1 h2 h3⟩
theorem FlH.set {h0 : Heap} {M : List Int} {A : Nat → Nat → Int} {L : List Dt} {s s' : Fs} {yb db bb lb : Nat} {h h' : Heap} (f : FlH h0 M A L s yb db bb lb h) (d : Dh M.length s'.y s'.dt yb db h') (hf : h'.Fr) (hn : h.next ≤ h'.next) (hu : ∀ q, q < h.next → q ≠ yb → q ≠ db → h'.raw q = h.raw q) : FlH h0 M A L s' yb db bb lb h' := by
  have a1 := f.yq
  have a2 := f.dq
  have a3 := f.b0
  have a4 := f.l0
  have a5 := f.bl
  have a6 := f.ll
  have a7 := f.nx
  exact ⟨d, by unfold Heap.get; rw [hu bb a5 (by omega) (by omega)]; exact f.b, by unfold Heap.get; rw [hu lb a6 (by omega) (by omega)]; exact f.l, by omega, by omega, f.ne, a1, a2, a3, a4, hf, by omega, fun q h1 h2 h3 => by rw [hu q (by omega) h2 h3]; exact f.un q h1 h2 h3⟩
end Go.Proofs.YtlkpikdfbodhoaaDoor
/- Chronologies, by the program. -/
namespace Go.Proofs.YtlkpikdfbodhoaaDoor
open Go Go.Em Go.Em.Net
set_option maxRecDepth 100000
end Go.Proofs.YtlkpikdfbodhoaaDoor
/- Chronologies, by the program: the function; that they keep the claims. -/
namespace Go.Proofs.YtlkpikdfbodhoaaDoor
open Go Go.Em Go.Em.Net
set_option maxRecDepth 100000
end Go.Proofs.YtlkpikdfbodhoaaDoor
