/- The library's Compact: what is kept. -/
import Derived.Test.YtlkpikdfbodhoaaDoorQu1
import Derived.Test.YtlkpikdfbodhoaaDoorTz
import Derived.Test.YtlkpikdfbodhoaaDoorTz
namespace Go.Proofs.YtlkpikdfbodhoaaDoor
open Go Go.Em
set_option maxRecDepth 100000
def dk (S : List Int) : Nat → List Int
  | 0 => []
  | j + 1 => dk S j ++ if j = 0 ∨ S.getD j 0 ≠ S.getD (j - 1) 0 then [S.getD j 0] else []
theorem dk_len (S : List Int) : ∀ j, (dk S j).length ≤ j
  | 0 => Nat.le_refl _
  | j + 1 => by
    have := dk_len S j
    rw [dk, List.length_append]
    split <;> simp <;> omega
theorem dk_all (S : List Int) : ∀ j, j ≤ S.length → (∀ t, 1 ≤ t → t < j → S.getD t 0 ≠ S.getD (t - 1) 0) → dk S j = S.take j
  | 0, _, _ => rfl
  | j + 1, hj, h => by
    have ih := dk_all S j (by omega) (fun t h1 h2 => h t h1 (by omega))
    rw [dk, ih, if_pos (Decidable.or_iff_not_imp_left.2 fun h0 => h j (by omega) (by omega)), List.take_add_one, List.getElem?_eq_getElem (by omega)]
    simp [List.getD, List.getElem?_eq_getElem (show j < S.length by omega)]
theorem dk_dup {S : List Int} {j : Nat} (h0 : j ≠ 0) (h : S.getD j 0 = S.getD (j - 1) 0) : dk S (j + 1) = dk S j := by
  rw [dk, if_neg (by simp [h0]; simpa using h), List.append_nil]
theorem dk_new {S : List Int} {j : Nat} (h : S.getD j 0 ≠ S.getD (j - 1) 0) : dk S (j + 1) = dk S j ++ [S.getD j 0] := by
  rw [dk, if_pos (.inr h)]
def cpL (S : List Int) (p : Nat) : List Int := dk S p ++ S.drop (dk S p).length
theorem cp_len {S : List Int} {p : Nat} (hp : p ≤ S.length) : (cpL S p).length = S.length := by
  have := dk_len S p
  unfold cpL; simp; omega
theorem cp_at {S : List Int} {p q : Nat} (h1 : (dk S p).length ≤ q) : (cpL S p)[q]? = S[q]? := by
  unfold cpL
  rw [List.getElem?_append_right h1, List.getElem?_drop]
  congr 1; omega
theorem cp_put {S : List Int} {p : Nat} (hp : p < S.length) (hlt : (dk S p).length < p) (h : S.getD p 0 ≠ S.getD (p - 1) 0) : (cpL S p).set (dk S p).length (S.getD p 0) = cpL S (p + 1) := by
  unfold cpL
  rw [dk_new h, List.set_append_right _ _ (Nat.le_refl _), Nat.sub_self, List.length_append, List.length_singleton, List.append_assoc]
  congr 1
  rw [List.drop_eq_getElem_cons (show (dk S p).length < S.length by omega)]
  rfl
theorem cp_same {S : List Int} {p : Nat} (h0 : p ≠ 0) (h : S.getD p 0 = S.getD (p - 1) 0) : cpL S (p + 1) = cpL S p := by
  unfold cpL; rw [dk_dup h0 h]
end Go.Proofs.YtlkpikdfbodhoaaDoor
/- The library's Compact, by the program; rising. -/
namespace Go.Proofs.YtlkpikdfbodhoaaDoor
open Go Go.Em
set_option maxRecDepth 100000
end Go.Proofs.YtlkpikdfbodhoaaDoor
/- The library's Compact, by the program: the outer loop; the function; rising. -/
namespace Go.Proofs.YtlkpikdfbodhoaaDoor
open Go Go.Em
set_option maxRecDepth 100000
theorem zer_rep (n : Nat) : zerosD [.int .i64 0] 1 n = List.replicate n (D.int 0) := by
  unfold zerosD
  rw [Nat.mul_one]
  have : ∀ k : Nat, (fun i : Nat => D.val (([Value.int .i64 0] : List Value).getD (i % 1) undef)) k = D.int 0 := fun k => by simp [Nat.mod_one]
  rw [show (fun i : Nat => D.val (([Value.int .i64 0] : List Value).getD (i % 1) undef)) = fun _ => D.int 0 from funext this, List.map_const', List.length_range]
theorem dk_add (S : List Int) (p : Nat) : ∀ j, (dk S (p + j)).length ≤ (dk S p).length + j
  | 0 => Nat.le_refl _
  | j + 1 => by
    have := dk_add S p j
    rw [← Nat.add_assoc, dk, List.length_append]
    split <;> simp <;> omega
def qCpF (S : List Int) (kb N : Nat) (h0 h : Heap) : Prop := ∃ Z : List Int, (dk S N ++ Z).length = N ∧ SD kb (dk S N ++ Z).toArray h0 h
end Go.Proofs.YtlkpikdfbodhoaaDoor
/- The library's Compact as a function; rising numbers. -/
namespace Go.Proofs.YtlkpikdfbodhoaaDoor
open Go Go.Em
set_option maxRecDepth 100000
def rsL (l : List Int) : List Int := dk (srtL l) l.length
theorem srt_len (l : List Int) : (srtL l).length = l.length := by unfold srtL; rw [List.length_mergeSort]
end Go.Proofs.YtlkpikdfbodhoaaDoor
/- The sources of claims: by the document, by the program. -/
namespace Go.Proofs.YtlkpikdfbodhoaaDoor
open Go Go.Em
set_option maxRecDepth 100000
end Go.Proofs.YtlkpikdfbodhoaaDoor
/- Rising numbers are the sources. -/
namespace Go.Proofs.YtlkpikdfbodhoaaDoor
open Go Go.Em
set_option maxRecDepth 100000
theorem rise_one : ∀ {a b : List Int}, Rise a → Rise b → (∀ x, x ∈ a ↔ x ∈ b) → a = b
  | [], [], _, _, _ => rfl
  | [], y :: b, _, _, h => by have := (h y).2 List.mem_cons_self; cases this
  | x :: a, [], _, _, h => by have := (h x).1 List.mem_cons_self; cases this
  | x :: a, y :: b, ha, hb, h => by
    unfold Rise at ha hb
    rw [List.pairwise_cons] at ha hb
    have hxy : x = y := by
      rcases List.mem_cons.1 ((h x).1 List.mem_cons_self) with e | e
      · exact e
      · rcases List.mem_cons.1 ((h y).2 List.mem_cons_self) with e' | e'
        · exact e'.symm
        · have := hb.1 x e; have := ha.1 y e'; omega
    subst hxy
    congr 1
    refine rise_one ha.2 hb.2 fun z => ?_
    constructor
    · intro hz
      rcases List.mem_cons.1 ((h z).1 (List.mem_cons_of_mem _ hz)) with e | e
      · have := ha.1 z hz; omega
      · exact e
    · intro hz
      rcases List.mem_cons.1 ((h z).2 (List.mem_cons_of_mem _ hz)) with e | e
      · have := hb.1 z hz; omega
      · exact e
theorem dk_rise {S : List Int} (hs : ∀ a b, a ≤ b → b < S.length → S.getD a 0 ≤ S.getD b 0) : ∀ j, j ≤ S.length → Rise (dk S j) ∧ ∀ x, x ∈ dk S j ↔ ∃ t, t < j ∧ x = S.getD t 0
  | 0, _ => ⟨List.Pairwise.nil, fun x => by simp [dk]⟩
  | j + 1, hj => by
    obtain ⟨h1, h2⟩ := dk_rise hs j (by omega)
    by_cases hn : j = 0 ∨ S.getD j 0 ≠ S.getD (j - 1) 0
    · rw [dk, if_pos hn]
      refine ⟨?_, fun x => ?_⟩
      · unfold Rise at h1 ⊢
        rw [List.pairwise_append]
        refine ⟨h1, List.pairwise_singleton _ _, fun x hx y hy => ?_⟩
        obtain ⟨t, ht, e⟩ := (h2 x).1 hx
        rw [List.mem_singleton.1 hy, e]
        have a1 := hs t (j - 1) (by omega) (by omega)
        have a2 := hs (j - 1) j (by omega) (by omega)
        rcases hn with h0 | h0
        · omega
        · omega
      · rw [List.mem_append, h2, List.mem_singleton]
        constructor
        · rintro (⟨t, ht, e⟩ | e)
          · exact ⟨t, by omega, e⟩
          · exact ⟨j, by omega, e⟩
        · rintro ⟨t, ht, e⟩
          by_cases htj : t = j
          · right; rw [e, htj]
          · left; exact ⟨t, by omega, e⟩
    · rw [dk, if_neg hn, List.append_nil]
      refine ⟨h1, fun x => ?_⟩
      rw [h2]
      constructor
      · rintro ⟨t, ht, e⟩; exact ⟨t, by omega, e⟩
      · rintro ⟨t, ht, e⟩
        by_cases htj : t = j
        · refine ⟨j - 1, by omega, ?_⟩
          rw [e, htj]
          have : ¬ (S.getD j 0 ≠ S.getD (j - 1) 0) := fun h => hn (.inr h)
          exact Decidable.not_not.1 this
        · exact ⟨t, by omega, e⟩
theorem srt_sorted (l : List Int) : ∀ a b, a ≤ b → b < (srtL l).length → (srtL l).getD a 0 ≤ (srtL l).getD b 0 := by
  have hp : (srtL l).Pairwise (fun x y => (!lt y x) = true) := by
    unfold srtL
    refine List.pairwise_mergeSort (fun x y z h1 h2 => ?_) (fun x y => ?_) l
    · simp only [lt, Go.Sort.ltInt, Bool.not_eq_true', decide_eq_false_iff_not] at *; omega
    · simp only [lt, Go.Sort.ltInt, Bool.or_eq_true, Bool.not_eq_true', decide_eq_false_iff_not]; omega
  intro a b hab hb
  by_cases e : a = b
  · rw [e]; exact Int.le_refl _
  · have := List.pairwise_iff_getElem.1 hp a b (by omega) hb (by omega)
    simp only [lt, Go.Sort.ltInt, Bool.not_eq_true', decide_eq_false_iff_not] at this
    simp only [List.getD, List.getElem?_eq_getElem hb, List.getElem?_eq_getElem (show a < (srtL l).length by omega), Option.getD_some]
    omega
theorem rs_rise (l : List Int) : Rise (rsL l) := (dk_rise (srt_sorted l) l.length (by rw [srt_len]; exact Nat.le_refl _)).1
theorem rs_mem (l : List Int) (x : Int) : x ∈ rsL l ↔ x ∈ l := by
  unfold rsL
  rw [(dk_rise (srt_sorted l) l.length (by rw [srt_len]; exact Nat.le_refl _)).2 x]
  have hm : x ∈ srtL l ↔ x ∈ l := by unfold srtL; exact List.mem_mergeSort
  rw [← hm]
  constructor
  · rintro ⟨t, ht, e⟩
    have ht' : t < (srtL l).length := by rw [srt_len]; exact ht
    rw [e]
    simp only [List.getD, List.getElem?_eq_getElem ht', Option.getD_some]
    exact List.getElem_mem ht'
  · intro h
    obtain ⟨t, ht, e⟩ := List.getElem_of_mem h
    exact ⟨t, by rw [srt_len] at ht; exact ht, by simp only [List.getD, List.getElem?_eq_getElem ht, Option.getD_some]; exact e.symm⟩
end Go.Proofs.YtlkpikdfbodhoaaDoor
