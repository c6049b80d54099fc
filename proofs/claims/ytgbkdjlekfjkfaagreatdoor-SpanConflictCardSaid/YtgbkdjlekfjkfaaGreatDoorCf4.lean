/- Sources are left out one by one, from the last one on, by the program. -/
import Derived.Test.YtgbkdjlekfjkfaaGreatDoorCf1
import Derived.Test.YtgbkdjlekfjkfaaGreatDoorQv1
namespace Go.Proofs.YtgbkdjlekfjkfaaGreatDoor
open Go Go.Em Go.Em.Net
set_option maxRecDepth 100000
def CL (X : Env 36) (M : Nat) : Lp := ⟨X.l, [25, 26], k47l0, k47l1, M, .ready, .normal⟩
structure CJ (X : Env 36) (l : List Clm) (S : List Int) (C : List D) (c0 : Option Nat) (M p6 b kb kc : Nat) (B : Int → Bool) (h : Heap) : Prop where
  gK : h.get (M + 1) = some (.loop (CL X M))
  gM : h.get M = some .mark
  g6 : h.get p6 = some (.cells 117 [clsD l, .mapr b])
  gb : h.get b = some (.map (mapK S B))
  gs : h.get kb = some (.cells 3 C)
  gc : h.get kc = some (.cells 40 [.slr kb 0 S.length 1 c0])
  nx : M + 2 ≤ h.next
  fr : h.Fr
theorem CJ.bump {X : Env 36} {l : List Clm} {S : List Int} {C : List D} {c0 : Option Nat} {M p6 b kb kc : Nat} {B : Int → Bool} {h : Heap} (t : CJ X l S C c0 M p6 b kb kc B h) (z : Nat) : CJ X l S C c0 M p6 b kb kc B (h.bump z) :=
  ⟨by simp [t.gK], by simp [t.gM], by simp [t.g6], by simp [t.gb], by simp [t.gs], by simp [t.gc], by have := t.nx; simp; omega, t.fr.bump z⟩
end Go.Proofs.YtgbkdjlekfjkfaaGreatDoor
/- Numbers are taken out of a list in the heap, by the program's library. -/
namespace Go.Proofs.YtgbkdjlekfjkfaaGreatDoor
open Go Go.Em Go.Em.Net
set_option maxRecDepth 100000
end Go.Proofs.YtgbkdjlekfjkfaaGreatDoor
/- Numbers are taken out of a list in the heap, by the program's library: the function. -/
namespace Go.Proofs.YtgbkdjlekfjkfaaGreatDoor
open Go Go.Em Go.Em.Net
set_option maxRecDepth 100000
end Go.Proofs.YtgbkdjlekfjkfaaGreatDoor
/- A least conflict, by the program. -/
namespace Go.Proofs.YtgbkdjlekfjkfaaGreatDoor
open Go Go.Em Go.Em.Net
set_option maxRecDepth 100000
theorem foldl_nodup : ∀ (l m : List Int), (m ++ l).Nodup → l.foldl (fun m n => if n ∈ m then m else m ++ [n]) m = m ++ l
  | [], m, _ => by simp
  | n :: l, m, h => by
    have hn : n ∉ m := fun hm => by
      have := (List.nodup_append.1 h).2.2 n hm n List.mem_cons_self
      exact this rfl
    rw [List.foldl_cons, if_neg hn, foldl_nodup l (m ++ [n]) (by simpa using h)]
    simp
theorem setF_id {S : List Int} (h : S.Nodup) : setF S = S := by unfold setF; rw [foldl_nodup S [] (by simpa using h)]; rfl
theorem rise_nodup {S : List Int} (h : Rise S) : S.Nodup := List.Pairwise.imp (fun {a b} (hab : a < b) => by omega) h
end Go.Proofs.YtgbkdjlekfjkfaaGreatDoor
