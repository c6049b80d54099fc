/- The document's sets: Union, Common, Less. -/
import Derived.Test.YtlddgfkdicgbeaaGreatDoorRf
namespace Go.Proofs.YtlddgfkdicgbeaaGreatDoor
open Go Go.Em
set_option maxRecDepth 100000
theorem nf_len : ∀ (L : List Rn) (lo : Int), Runs.NF L → (∀ s, s ∈ L → lo ≤ s.1) → lo ≤ 1000000002 → 2 * (L.length : Int) ≤ 1000000002 - lo
  | [], lo, _, _, h => by simp; omega
  | s :: L, lo, hn, h, _ => by
    obtain ⟨ho, hn', hp⟩ := Runs.nf_cons.1 hn
    have h1 := h s List.mem_cons_self
    obtain ⟨o1, o2, o3⟩ := ho
    have hF : Runs.FAR = 1000000000 := rfl
    have := nf_len L (s.2 + 2) hn' hp (by omega)
    rw [List.length_cons]
    omega
theorem nf_len' {L : List Rn} (h : Runs.NF L) : L.length ≤ 1000000001 := by
  have := nf_len L (-1000000000) h (fun s hs => (h.1 s hs).1) (by omega)
  omega
end Go.Proofs.YtlddgfkdicgbeaaGreatDoor
/- The document's sets: Common, Less. -/
namespace Go.Proofs.YtlddgfkdicgbeaaGreatDoor
open Go Go.Em
set_option maxRecDepth 100000
end Go.Proofs.YtlddgfkdicgbeaaGreatDoor
