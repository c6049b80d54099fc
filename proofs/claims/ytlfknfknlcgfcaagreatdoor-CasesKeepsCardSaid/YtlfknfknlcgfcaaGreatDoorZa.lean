/- Choices of a world's questions: whether they are choices; what the program looks at first. -/
import Derived.Test.YtlfknfknlcgfcaaGreatDoorY1
namespace Go.Proofs.YtlfknfknlcgfcaaGreatDoor
open Go Go.Em
set_option maxRecDepth 100000
def okCh (p : Qst × Int) : Bool := inR p.2 0 ((p.1.ch.length : Int) - 1)
theorem zip_take {w : Wld} {cs : List Int} {i : Nat} (hi : i < w.qs.length) (hc : i < cs.length) : (w.qs.zip cs).take (i + 1) = (w.qs.zip cs).take i ++ [(w.qs[i], cs[i])] := by
  rw [List.take_add_one, List.getElem?_eq_getElem (by rw [List.length_zip]; omega)]
  simp
end Go.Proofs.YtlfknfknlcgfcaaGreatDoor
/- Whether choices are choices of all questions: by the document. -/
namespace Go.Proofs.YtlfknfknlcgfcaaGreatDoor
open Go Go.Em
set_option maxRecDepth 100000
end Go.Proofs.YtlfknfknlcgfcaaGreatDoor
/- Claims at choices: which they are, and how many. -/
namespace Go.Proofs.YtlfknfknlcgfcaaGreatDoor
open Go Go.Em
set_option maxRecDepth 100000
def pickC (p : Qst × Int) : List Clm := p.1.ch.getD p.2.toNat []
def upF (w : Wld) (cs : List Int) : List Clm := w.cl ++ (w.qs.zip cs).flatMap pickC
def upN (w : Wld) (cs : List Int) (i : Nat) : List Clm := w.cl ++ ((w.qs.zip cs).take i).flatMap pickC
theorem up_zero (w : Wld) (cs : List Int) : upN w cs 0 = w.cl := by simp [upN]
theorem up_all {w : Wld} {cs : List Int} {i : Nat} (h : cs.length ≤ i) : upN w cs i = upF w cs := by
  unfold upN upF
  rw [List.take_of_length_le (by rw [List.length_zip]; omega)]
theorem up_succ {w : Wld} {cs : List Int} {i : Nat} (hi : i < w.qs.length) (hc : i < cs.length) : upN w cs (i + 1) = upN w cs i ++ pickC (w.qs[i], cs[i]) := by
  unfold upN
  rw [zip_take hi hc, List.flatMap_append, List.append_assoc]
  simp
theorem most_ge : ∀ (l : List (List Clm)) (m : Nat), m ≤ l.foldl (fun m c => max m c.length) m
  | [], _ => Nat.le_refl _
  | c :: l, m => Nat.le_trans (Nat.le_max_left _ _) (most_ge l (max m c.length))
theorem most_mem : ∀ (l : List (List Clm)) (m : Nat) (c : List Clm), c ∈ l → c.length ≤ l.foldl (fun m c => max m c.length) m
  | a :: l, m, c, h => by
    rw [List.foldl_cons]
    rcases List.mem_cons.1 h with rfl | h
    · exact Nat.le_trans (Nat.le_max_right _ _) (most_ge l _)
    · exact most_mem l _ c h
theorem getD_mem {α : Type} {l : List α} {i : Nat} {d : α} : l.getD i d ∈ l ∨ l.getD i d = d := by
  by_cases h : i < l.length
  · left; simp [h]
  · right; simp [List.getD, List.getElem?_eq_none (show l.length ≤ i by omega)]
theorem pick_le (p : Qst × Int) : (pickC p).length ≤ mostF p.1.ch := by
  unfold pickC mostF
  rcases getD_mem (l := p.1.ch) (i := p.2.toNat) (d := []) with h | h
  · exact most_mem _ _ _ h
  · rw [h]; exact Nat.zero_le _
theorem claims_ge : ∀ (l : List Qst) (m : Nat), m ≤ l.foldl (fun m q => m + mostF q.ch) m
  | [], _ => Nat.le_refl _
  | _ :: l, _ => Nat.le_trans (Nat.le_add_right _ _) (claims_ge l _)
theorem up_le' : ∀ (qs : List Qst) (cs : List Int) (i m : Nat), m + (((qs.zip cs).take i).flatMap pickC).length ≤ qs.foldl (fun m q => m + mostF q.ch) m
  | [], cs, i, m => by simp
  | q :: qs, [], _, m => by simp; exact claims_ge (q :: qs) m
  | q :: qs, c :: cs, 0, m => by simp; exact claims_ge (q :: qs) m
  | q :: qs, c :: cs, i + 1, m => by
    have h := up_le' qs cs i (m + mostF q.ch)
    have h2 := pick_le (q, c)
    rw [List.zip_cons_cons, List.take_succ_cons, List.flatMap_cons, List.length_append, List.foldl_cons]
    simp only at h2
    omega
theorem up_le (w : Wld) (cs : List Int) (i : Nat) : (upN w cs i).length ≤ claimsF w := by
  unfold upN claimsF
  rw [List.length_append]
  exact up_le' w.qs cs i w.cl.length
end Go.Proofs.YtlfknfknlcgfcaaGreatDoor
