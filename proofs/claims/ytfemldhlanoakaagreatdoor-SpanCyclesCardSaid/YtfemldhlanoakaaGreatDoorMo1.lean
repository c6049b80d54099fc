/- The chain of the least bound: what a search from mark to mark gives; where it leads, and what it shows: mathematics. -/
import Derived.Test.YtfemldhlanoakaaGreatDoorPl
import Derived.Test.YtfemldhlanoakaaGreatDoorTz
import Derived.Test.YtfemldhlanoakaaGreatDoorEmNet
import Derived.Test.YtfemldhlanoakaaGreatDoorPl
namespace Go.Proofs.YtfemldhlanoakaaGreatDoor
open Go Go.Em Go.Em.Net
def mvO (m : Mo) : Mv := (m.fr, m.to_, m.mo)
def Pa : Nat → List Mo → Nat → Prop
  | a, [], b => a = b
  | a, m :: c, b => m.fr = a ∧ Pa m.to_ c b
def smF : List Mo → Int
  | [] => 0
  | m :: c => m.mo + smF c
theorem movs_claim {M : List Int} : ∀ {l : List Clm} {i : Nat} {m : Mo}, m ∈ movsF M i l → ∃ (j : Nat) (c : Clm), l[j]? = some c ∧ m.cl = ((i + j : Nat) : Int) ∧ m.fr = placeF M (endA c m.bk) ∧ m.to_ = placeF M (endB c m.bk) ∧ m.mo = endN c m.bk
  | [], _, _, h => by simp [movsF] at h
  | c :: l, i, m, h => by
    rw [movsF] at h
    rcases List.mem_append.1 h with h | h
    · refine ⟨0, c, rfl, ?_⟩
      rcases (by simpa [movF] using h : m = _ ∨ m = _) with rfl | rfl
      · exact ⟨by simp, by simp [endA], by simp [endB], by simp [endN]⟩
      · exact ⟨by simp, by simp [endA], by simp [endB], by simp [endN]⟩
    · obtain ⟨j, c', h1, h2, h3⟩ := movs_claim h
      exact ⟨j + 1, c', by simpa using h1, by rw [h2]; omega, h3⟩
def stO (m : Mo) : Stp := ⟨m.cl, m.bk⟩
theorem pa_snoc {m : Mo} {b : Nat} : ∀ {c : List Mo} {a : Nat}, Pa a (c ++ [m]) b → Pa a c m.fr ∧ m.to_ = b
  | [], a, h => ⟨h.1.symm, h.2⟩
  | x :: c, a, h => by
    obtain ⟨h1, h2⟩ := pa_snoc (c := c) h.2
    exact ⟨⟨h.1, h1⟩, h2⟩
theorem sm_snoc {m : Mo} : ∀ c : List Mo, smF (c ++ [m]) = smF c + m.mo
  | [] => by simp [smF]
  | x :: c => by
    show x.mo + smF (c ++ [m]) = x.mo + smF c + m.mo
    rw [sm_snoc c]; omega
theorem place_getD {M : List Int} {v : Int} (h : v ∈ M) : M.getD (placeF M v) 0 = v := by
  obtain ⟨h1, h2⟩ := place_at h
  rw [List.getD_eq_getElem?_getD, List.getElem?_eq_getElem h1, h2]; rfl
theorem end_mem {l : List Clm} {c : Clm} (hc : c ∈ l) (bk : Bool) : endA c bk ∈ marksF l ∧ endB c bk ∈ marksF l := by
  have h1 := (marks_mem l c.a).2 ⟨c, hc, .inl rfl⟩
  have h2 := (marks_mem l c.b).2 ⟨c, hc, .inr rfl⟩
  cases bk
  · exact ⟨h1, h2⟩
  · exact ⟨h2, h1⟩
theorem walk_pa {l : List Clm} {c : List Mo} (hc : ∀ m ∈ c, m ∈ movsF (marksF l) 0 l) {a : Nat} : ∀ (k b : Nat), k < c.length → Pa a (c.take (k + 1)) b → walkTo l (c.map stO) (k + 1) = some ((marksF l).getD a 0, (marksF l).getD b 0, smF (c.take (k + 1)))
  | 0, b, hk, hp => by
    obtain ⟨m, hm⟩ : ∃ m, c[0] = m := ⟨_, rfl⟩
    have ht : c.take 1 = [m] := by rw [List.take_add_one, List.getElem?_eq_getElem hk, hm]; rfl
    rw [ht] at hp ⊢
    obtain ⟨e1, e2⟩ := hp
    obtain ⟨j, cl, h1, h2, h3, h4, h5⟩ := movs_claim (hc m (by rw [← hm]; exact List.getElem_mem hk))
    have hcl := List.mem_of_getElem? h1
    obtain ⟨m1, m2⟩ := end_mem hcl m.bk
    have hj : j < l.length := (List.getElem?_eq_some_iff.1 h1).1
    have hg : (c.map stO)[0]? = some (stO m) := by rw [List.getElem?_map, List.getElem?_eq_getElem hk, hm]; rfl
    rw [walk_step (show walkTo l (c.map stO) 0 = some (0, 0, 0) from rfl) hg]
    have hin : inR (stO m).c 0 (l.length - 1) = true := by unfold inR stO; simp only [decide_eq_true_eq]; omega
    have hn : (stO m).c.toNat = j := by show m.cl.toNat = j; omega
    have e2' : m.to_ = b := e2
    rw [if_pos hin, hn, h1]
    simp only [if_true]
    rw [← e1, ← e2', h3, h4, place_getD m1, place_getD m2]
    simp [smF, stO, h5]
  | k + 1, b, hk, hp => by
    obtain ⟨m, hm⟩ : ∃ m, c[k + 1] = m := ⟨_, rfl⟩
    have ht : c.take (k + 1 + 1) = c.take (k + 1) ++ [m] := by rw [List.take_add_one, List.getElem?_eq_getElem hk, hm]; rfl
    rw [ht] at hp ⊢
    obtain ⟨p1, p2⟩ := pa_snoc hp
    have ih := walk_pa hc k m.fr (by omega) p1
    obtain ⟨j, cl, h1, h2, h3, h4, h5⟩ := movs_claim (hc m (by rw [← hm]; exact List.getElem_mem hk))
    have hcl := List.mem_of_getElem? h1
    obtain ⟨m1, m2⟩ := end_mem hcl m.bk
    have hj : j < l.length := (List.getElem?_eq_some_iff.1 h1).1
    have hg : (c.map stO)[k + 1]? = some (stO m) := by rw [List.getElem?_map, List.getElem?_eq_getElem hk, hm]; rfl
    rw [walk_step ih hg]
    have hin : inR (stO m).c 0 (l.length - 1) = true := by unfold inR stO; simp only [decide_eq_true_eq]; omega
    have hn : (stO m).c.toNat = j := by show m.cl.toNat = j; omega
    rw [if_pos hin, hn, h1]
    simp only [Nat.add_eq_zero_iff, Nat.one_ne_zero, and_false, if_false]
    have ea : endA cl (stO m).back = (marksF l).getD m.fr 0 := by rw [h3, place_getD m1]; rfl
    rw [if_neg (fun h => h ea), sm_snoc, ← p2, h4, place_getD m2, h5]
    rfl
end Go.Proofs.YtfemldhlanoakaaGreatDoor
/- The chain of the least bound: does a move lead there; one round of the search, by the program. -/
namespace Go.Proofs.YtfemldhlanoakaaGreatDoor
open Go Go.Em Go.Em.Net
set_option maxRecDepth 100000
end Go.Proofs.YtfemldhlanoakaaGreatDoor
/- The chain of the least bound: how many steps are left, by the program. -/
namespace Go.Proofs.YtfemldhlanoakaaGreatDoor
open Go Go.Em Go.Em.Net
set_option maxRecDepth 100000
end Go.Proofs.YtfemldhlanoakaaGreatDoor
/- The chain of the least bound: the next move, by the program. -/
namespace Go.Proofs.YtfemldhlanoakaaGreatDoor
open Go Go.Em Go.Em.Net
set_option maxRecDepth 100000
end Go.Proofs.YtfemldhlanoakaaGreatDoor
