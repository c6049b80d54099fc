/- The chain of the least bound: what a search from mark to mark gives; where it leads, and what it shows: mathematics. -/
import Derived.Test.YtfemldhlanoakaaGreatDoorPl
import Derived.Test.YtfemldhlanoakaaGreatDoorTz
import Derived.Test.YtfemldhlanoakaaGreatDoorEmNet
namespace Go.Proofs.YtfemldhlanoakaaGreatDoor
open Go Go.Em Go.Em.Net
theorem place_getD {M : List Int} {v : Int} (h : v ∈ M) : M.getD (placeF M v) 0 = v := by
  obtain ⟨h1, h2⟩ := place_at h
  rw [List.getD_eq_getElem?_getD, List.getElem?_eq_getElem h1, h2]; rfl
end Go.Proofs.YtfemldhlanoakaaGreatDoor
