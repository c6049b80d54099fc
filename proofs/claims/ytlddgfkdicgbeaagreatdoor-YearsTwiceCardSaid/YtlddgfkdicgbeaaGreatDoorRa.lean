/- Runs of years: the parts from -Far to Far, by the program. -/
import Derived.Test.YtlddgfkdicgbeaaGreatDoorKu1
import Derived.Test.YtlddgfkdicgbeaaGreatDoorEmFlat
namespace Go.Proofs.YtlddgfkdicgbeaaGreatDoor
open Go Go.Em
set_option maxRecDepth 100000
abbrev Rn := Runs.Rn
def rnC (p : Rn) : List D := [D.int p.1, D.int p.2]
def rnD (p : Rn) : D := .agg (rnC p)
def rnsD (L : List Rn) : D := .sl false (L.map rnD)
theorem cells_rn : ∀ L : List Rn, (L.flatMap rnC).length = L.length * 2 := fun L => length_flatMap rnC (fun _ => rfl) L
theorem rn_chunk (L : List Rn) (n : Nat) (hn : n = L.length) : chunk 2 n (L.flatMap rnC) = L.map rnD := chunk_flatMap rnC (by decide) (fun _ => rfl) L n hn
theorem rn_can (L : List Rn) : D.canonL (L.map rnD) = true := by
  induction L with
  | nil => rfl
  | cons r L ih => simp only [List.map_cons, D.canonL, ih, Bool.and_true]; rfl
theorem rns_can (L : List Rn) : D.canonL [rnsD L] = true := by
  have := rn_can L
  simp [rnsD, this]
theorem rns_can2 (L M : List Rn) : D.canonL [rnsD L, rnsD M] = true := by
  have := rn_can L
  have := rn_can M
  simp [rnsD, *]
def GR (h : Heap) (d : D) (L : List Rn) : Prop := (L = [] ∧ d = .val (.slice none 0 0)) ∨ ∃ k, d = .slr k 0 L.length 2 none ∧ h.get k = some (.cells 40 (L.flatMap rnC)) ∧ k < h.next
theorem GR.keep {h h' : Heap} {d : D} {L : List Rn} (g : GR h d L) (hn : h.next ≤ h'.next) (hk : ∀ k, k < h.next → h'.get k = h.get k) : GR h' d L := by
  rcases g with g | ⟨k, a, b, c⟩
  · exact .inl g
  · exact .inr ⟨k, a, by rw [hk k c]; exact b, by omega⟩
theorem GR.frz {h : Heap} {d : D} {L : List Rn} (g : GR h d L) (n : Nat) : ∃ ks, Go.Em.frz h (n + 2) d = some (rnsD L, ks) := by
  rcases g with ⟨rfl, rfl⟩ | ⟨k, rfl, g, _⟩
  · exact ⟨[], rfl⟩
  · refine ⟨k :: [], ?_⟩
    have hea := each_canon h n (L.flatMap rnC) (canonL_flatMap rnC (fun c => by simp [rnC]) L)
    have hc : (L.flatMap rnC).take (L.length * 2) = L.flatMap rnC := List.take_of_length_le (by rw [cells_rn]; omega)
    rw [frz_slr, g, frzS_cells]
    simp only [List.drop_zero, hc, hea, Option.map_some, rn_chunk L _ rfl, Nat.zero_add]
    rw [if_pos ⟨by rw [cells_rn]; omega, by omega⟩]; rfl
theorem GR.frz4 {h : Heap} {d : D} {L : List Rn} (g : GR h d L) : ∃ ks, Go.Em.frz h 24 d = some (rnsD L, ks) := g.frz 22
theorem clips_snoc (l : List Rn) (r : Rn) : Runs.clips (l ++ [r]) = Runs.clips l ++ (if (Runs.clipR r).1 ≤ (Runs.clipR r).2 then [Runs.clipR r] else []) := by
  unfold Runs.clips
  rw [List.map_append, List.filter_append]
  congr 1
  by_cases h : (Runs.clipR r).1 ≤ (Runs.clipR r).2 <;> simp [h]
theorem clips_le (l : List Rn) : (Runs.clips l).length ≤ l.length := by
  unfold Runs.clips
  refine Nat.le_trans (List.length_filter_le _ _) (by simp)
theorem take_snoc {α : Type} {l : List α} {i : Nat} (hi : i < l.length) : l.take (i + 1) = l.take i ++ [l[i]] := by
  rw [List.take_add_one, List.getElem?_eq_getElem hi]; rfl
def ClI (l : List Rn) (k : Nat) (s : St) : Prop := ∃ (x : Env 30) (h : Heap) (i : Nat) (d : D), s = ⟨x.l, h, []⟩ ∧ i + k = l.length ∧ x.v 6 = rnsD l ∧ x.v 7 = D.int l.length ∧ x.v 8 = D.int i ∧ x.v 3 = d ∧ GR h d (Runs.clips (l.take i)) ∧ h.Fr
set_option maxHeartbeats 8000000 in
theorem cl_round (l : List Rn) (hl : l.length ≤ 10000000) : ∀ n, 1 ≤ n → ∀ k s, ClI l k s → Res (k40l0.ev ⟨pg, 30, none⟩ (rc pg n) s) (Rnd (ClI l) (fun x s => x = .exit 0 ∧ ClI l 0 s) k) := by
  rintro n hn k s ⟨x, h, i, d, rfl, hik, v6, v7, v8, v3, hd, hf⟩
  simp only [rnsD] at v6
  by_cases hi : i < l.length
  · obtain ⟨r, hr⟩ : ∃ r, l[i] = r := ⟨_, rfl⟩
    have hsn := clips_snoc (l.take i) r
    rw [← hr, ← take_snoc hi, hr] at hsn
    have hle := clips_le (l.take i)
    have hle2 : (l.take i).length ≤ i := by simp; omega
    obtain ⟨O, hO⟩ : ∃ O, O = Runs.clips (l.take i) := ⟨_, rfl⟩
    rw [← hO] at hd hsn hle
    have w1 : IntKind.i64.wrap ((i : Int) + 1) = (i : Int) + 1 := wrap_i64 (by omega) (by omega)
    have hfr : ∀ j, h.raw (h.next + j) = none := fun j => hf _ (by omega)
    have e1 : (Runs.clipR r).1 = max r.1 (-1000000000) := rfl
    have e2 : (Runs.clipR r).2 = min r.2 1000000000 := rfl
    obtain ⟨P, hP⟩ : ∃ P, P = Runs.clipR r := ⟨_, rfl⟩
    rw [← hP] at e1 e2 hsn
    by_cases hc : P.1 ≤ P.2
    · rw [if_pos hc] at hsn
      have hO48 : (O.length + 1) * 16 ≤ 140737488355328 := by omega
      rcases hd with ⟨hO0, rfl⟩ | ⟨kk, rfl, hg, hkk⟩
      · subst hO0
        simp [k40l0, v6, v7, v8, v3, hi, hr, w1, D.cells, D.one, hfr, Nat.add_assoc, rnD, rnC, ← e1, ← e2, hc, zerosD, apK_some, room, maxLen, List.range_succ]
        refine ⟨k - 1, by omega, _, _, i + 1, .slr (h.next + 147) 0 1 2 none, rfl, by omega, by simp [v6, rnsD], by simp [v7], by simp, by simp, .inr ⟨h.next + 147, by simp [hsn], by simp [hsn, rnC], by simp <;> omega⟩, ?_⟩
        repeat' first | exact hf | apply Heap.Fr.bump | apply Heap.Fr.set
        all_goals (simp <;> omega)
      · have ne1 : ∀ j, (h.next + j = kk) = False := fun j => by simp; omega
        have ne2 : ∀ j, (kk = h.next + j) = False := fun j => by simp; omega
        have happ := fun t hh news => appS_none (t := t) (et := 40) (sz := 2) (bytes := 16) (h := hh) (m := 1) (news := news) (k := kk) (n := O.length) (cs := O.flatMap rnC) (cells_rn O) (by omega) (by unfold room; omega) (by unfold maxLen; omega)
        simp [k40l0, v6, v7, v8, v3, hi, hr, w1, D.cells, D.one, hfr, Nat.add_assoc, rnD, rnC, ← e1, ← e2, hc, zerosD, apK_some, List.range_succ, hg, ne1, ne2, happ]
        refine ⟨k - 1, by omega, _, _, i + 1, .slr (h.next + 147) 0 (O.length + 1) 2 none, rfl, by omega, by simp [v6, rnsD], by simp [v7], by simp, by simp, .inr ⟨h.next + 147, by simp [hsn], by simp [hsn, rnC], by simp <;> omega⟩, ?_⟩
        repeat' first | exact hf | apply Heap.Fr.bump | apply Heap.Fr.set
        all_goals (simp <;> omega)
    · rw [if_neg hc, List.append_nil] at hsn
      simp [k40l0, v6, v7, v8, hi, hr, w1, D.cells, D.one, hfr, Nat.add_assoc, rnD, rnC, ← e1, ← e2, hc]
      refine ⟨k - 1, by omega, _, _, i + 1, d, rfl, by omega, by simp [v6, rnsD], by simp [v7], by simp, by simp [v3], ?_, ?_⟩
      · rw [hsn]
        refine hd.keep (by simp <;> omega) fun q hq => ?_
        have ne3 : ∀ j, (q = h.next + j) = False := fun j => by simp; omega
        simp [ne3]
      · repeat' first | exact hf | apply Heap.Fr.bump | apply Heap.Fr.set
        all_goals (simp <;> omega)
  · simp [k40l0, v7, v8, hi]
    exact ⟨_, _, i, d, rfl, by omega, by simp [v6, rnsD], by simp [v7], by simp [v8], by simp [v3], hd.keep (by simp) (by simp), hf.bump _⟩
set_option maxHeartbeats 4000000 in
theorem clipped_run (l : List Rn) (hl : l.length ≤ 10000000) {n : Nat} (hn : l.length + 10 ≤ n) : pureCall (rc pg n) 40 [rnsD l] = some (.ret (rnsD (Runs.clips l))) := by
  obtain ⟨m, rfl, e⟩ := body (pg := pg) (f := 40) (args := [rnsD l]) (show 0 < n by omega) rfl rfl
  rw [e]
  simp [k40, Env.v_ini, rnsD, ev_loop]
  refine Res.endsAfter (lp_rule 1 (ClI l) _ (cl_round l hl) l.length m _ (by omega) ⟨_, _, 0, .val (.slice none 0 0), rfl, by omega, by simp [rnsD], by simp, by simp, by simp, .inl ⟨rfl, rfl⟩, ?_⟩) ?_
  · repeat' first | exact Heap.Fr.empty | apply Heap.Fr.bump | apply Heap.Fr.set
  · rintro x s ⟨rfl, x, h, i, d, rfl, hi, v6, v7, v8, v3, hd, hf⟩
    obtain rfl : i = l.length := by omega
    rw [List.take_length] at hd
    obtain ⟨ks, hz⟩ := (hd.keep (h' := h.bump 30) (by simp) (by simp)).frz4
    simp only [rnsD] at hz ⊢
    simp [v3]
    rw [hz]
    exact ⟨_, rfl⟩
end Go.Proofs.YtlddgfkdicgbeaaGreatDoor
/- The ends of runs, sorted by year, by the program. -/
namespace Go.Proofs.YtlddgfkdicgbeaaGreatDoor
open Go Go.Em
set_option maxRecDepth 100000
def ensD (E : List EE) : D := .sl false (E.map eD)
theorem cells_en : ∀ L : List EE, (L.flatMap eC).length = L.length * 3 := fun L => length_flatMap eC (fun _ => rfl) L
theorem en_chunk (L : List EE) (n : Nat) (hn : n = L.length) : chunk 3 n (L.flatMap eC) = L.map eD := chunk_flatMap eC (by decide) (fun _ => rfl) L n hn
theorem en_can (L : List EE) : D.canonL (L.map eD) = true := by
  induction L with
  | nil => rfl
  | cons r L ih => simp only [List.map_cons, D.canonL, ih, Bool.and_true]; rfl
theorem vals_run (E : List EE) {n : Nat} (hn : 1 ≤ n) : pureCall (rc pg n) 61 [ensD E] = some (.ret (.fn (.func 83) [] [.eref [ensD E]])) := by
  obtain ⟨m, rfl, e⟩ := body (pg := pg) (f := 61) (args := [ensD E]) (show 0 < n by omega) rfl rfl
  rw [e]
  have hea := fun h => each_canon h 20 (E.map eD) (en_can E)
  simp [k61, Env.v_ini, ensD, D.cells, D.one]
  rw [hea]
  exact ⟨_, rfl⟩
def GE (h : Heap) (d : D) (L : List EE) : Prop := (L = [] ∧ d = .val (.slice none 0 0)) ∨ ∃ k, d = .slr k 0 L.length 3 none ∧ h.get k = some (.cells 74 (L.flatMap eC)) ∧ k < h.next
theorem GE.keep {h h' : Heap} {d : D} {L : List EE} (g : GE h d L) (hn : h.next ≤ h'.next) (hk : ∀ k, k < h.next → h'.get k = h.get k) : GE h' d L := by
  rcases g with g | ⟨k, a, b, c⟩
  · exact .inl g
  · exact .inr ⟨k, a, by rw [hk k c]; exact b, by omega⟩
theorem GE.frz {h : Heap} {d : D} {L : List EE} (g : GE h d L) (n : Nat) : ∃ ks, Go.Em.frz h (n + 2) d = some (ensD L, ks) := by
  rcases g with ⟨rfl, rfl⟩ | ⟨k, rfl, g, _⟩
  · exact ⟨[], rfl⟩
  · refine ⟨k :: [], ?_⟩
    have hea := each_canon h n (L.flatMap eC) (canonL_flatMap eC (fun c => by simp [eC]) L)
    have hc : (L.flatMap eC).take (L.length * 3) = L.flatMap eC := List.take_of_length_le (by rw [cells_en]; omega)
    rw [frz_slr, g, frzS_cells]
    simp only [List.drop_zero, hc, hea, Option.map_some, en_chunk L _ rfl, Nat.zero_add]
    rw [if_pos ⟨by rw [cells_en]; omega, by omega⟩]; rfl
theorem length_flatMap' {α β : Type} {sz : Nat} (f : α → List β) (hf : ∀ a, (f a).length = sz) : ∀ (l : List α), (l.flatMap f).length = l.length * sz
  | [] => by simp
  | a :: l => by rw [List.flatMap_cons, List.length_append, hf a, length_flatMap' f hf l, List.length_cons, Nat.succ_mul]; omega
theorem endA_snoc (l : List Rn) (r : Rn) : Runs.endA (l ++ [r]) = Runs.endA l ++ [⟨r.1, 1, 0⟩, ⟨r.2 + 1, -1, 0⟩] := by unfold Runs.endA; simp
theorem endB_snoc (l : List Rn) (r : Rn) : Runs.endB (l ++ [r]) = Runs.endB l ++ [⟨r.1, 0, 1⟩, ⟨r.2 + 1, 0, -1⟩] := by unfold Runs.endB; simp
theorem endA_len (l : List Rn) : (Runs.endA l).length = l.length * 2 := by unfold Runs.endA; exact length_flatMap' (sz := 2) _ (fun _ => rfl) l
theorem endB_len (l : List Rn) : (Runs.endB l).length = l.length * 2 := by unfold Runs.endB; exact length_flatMap' (sz := 2) _ (fun _ => rfl) l
def EaI (A : List Rn) (b : D) (k : Nat) (s : St) : Prop := ∃ (x : Env 50) (h : Heap) (i : Nat) (d : D), s = ⟨x.l, h, []⟩ ∧ i + k = A.length ∧ x.v 1 = b ∧ x.v 11 = rnsD A ∧ x.v 12 = D.int A.length ∧ x.v 13 = D.int i ∧ x.v 5 = d ∧ GE h d (Runs.endA (A.take i)) ∧ h.Fr
set_option maxHeartbeats 8000000 in
theorem ea_round (A : List Rn) (hA : A.length ≤ 2000000) (hok : ∀ r, r ∈ A → Runs.okR r) (b : D) : ∀ n, 1 ≤ n → ∀ k s, EaI A b k s → Res (k43l0.ev ⟨pg, 50, none⟩ (rc pg n) s) (Rnd (EaI A b) (fun x s => x = .exit 0 ∧ EaI A b 0 s) k) := by
  rintro n hn k s ⟨x, h, i, d, rfl, hik, v1, v11, v12, v13, v5, hd, hf⟩
  simp only [rnsD] at v11
  by_cases hi : i < A.length
  · obtain ⟨r, hr⟩ : ∃ r, A[i] = r := ⟨_, rfl⟩
    have hro : Runs.okR r := hr ▸ hok _ (List.getElem_mem hi)
    obtain ⟨o1, o2, o3⟩ := hro
    have hF : Runs.FAR = 1000000000 := rfl
    have hsn := endA_snoc (A.take i) r
    rw [← hr, ← take_snoc hi, hr] at hsn
    have hle := endA_len (A.take i)
    have hle2 : (A.take i).length ≤ i := by simp; omega
    obtain ⟨O, hO⟩ : ∃ O, O = Runs.endA (A.take i) := ⟨_, rfl⟩
    rw [← hO] at hd hsn hle
    have w1 : IntKind.i64.wrap ((i : Int) + 1) = (i : Int) + 1 := wrap_i64 (by omega) (by omega)
    have w2 : IntKind.i64.wrap (r.2 + 1) = r.2 + 1 := wrap_i64 (by omega) (by omega)
    have hfr : ∀ j, h.raw (h.next + j) = none := fun j => hf _ (by omega)
    rcases hd with ⟨hO0, rfl⟩ | ⟨kk, rfl, hg, hkk⟩
    · subst hO0
      simp [k43l0, v11, v12, v13, v5, hi, hr, w1, w2, D.cells, D.one, hfr, Nat.add_assoc, rnD, rnC, zerosD, apK_some, room, maxLen, List.range_succ]
      refine ⟨k - 1, by omega, _, _, i + 1, .slr (h.next + 126) 0 2 3 none, rfl, by omega, by simp [v1], by simp [v11, rnsD], by simp [v12], by simp, by simp, .inr ⟨h.next + 126, by simp [hsn], by simp [hsn, eC], by simp <;> omega⟩, ?_⟩
      repeat' first | exact hf | apply Heap.Fr.bump | apply Heap.Fr.set
      all_goals (simp <;> omega)
    · have ne1 : ∀ j, (h.next + j = kk) = False := fun j => by simp; omega
      have ne2 : ∀ j, (kk = h.next + j) = False := fun j => by simp; omega
      have happ := fun t hh news => appS_none (t := t) (et := 74) (sz := 3) (bytes := 24) (h := hh) (m := 2) (news := news) (k := kk) (n := O.length) (cs := O.flatMap eC) (cells_en O) (by omega) (by unfold room; omega) (by unfold maxLen; omega)
      simp [k43l0, v11, v12, v13, v5, hi, hr, w1, w2, D.cells, D.one, hfr, Nat.add_assoc, rnD, rnC, zerosD, apK_some, List.range_succ, hg, ne1, ne2, happ]
      refine ⟨k - 1, by omega, _, _, i + 1, .slr (h.next + 126) 0 (O.length + 2) 3 none, rfl, by omega, by simp [v1], by simp [v11, rnsD], by simp [v12], by simp, by simp, .inr ⟨h.next + 126, by simp [hsn], by simp [hsn, eC], by simp <;> omega⟩, ?_⟩
      repeat' first | exact hf | apply Heap.Fr.bump | apply Heap.Fr.set
      all_goals (simp <;> omega)
  · simp [k43l0, v12, v13, hi]
    exact ⟨_, _, i, d, rfl, by omega, by simp [v1], by simp [v11, rnsD], by simp [v12], by simp [v13], by simp [v5], hd.keep (by simp) (by simp), hf.bump _⟩
def EbI (A : List EE) (B : List Rn) (k : Nat) (s : St) : Prop := ∃ (x : Env 50) (h : Heap) (i : Nat) (d : D), s = ⟨x.l, h, []⟩ ∧ i + k = B.length ∧ x.v 29 = rnsD B ∧ x.v 30 = D.int B.length ∧ x.v 31 = D.int i ∧ x.v 5 = d ∧ GE h d (A ++ Runs.endB (B.take i)) ∧ h.Fr
set_option maxHeartbeats 8000000 in
theorem eb_round (A : List EE) (B : List Rn) (hA : A.length ≤ 4000000) (hB : B.length ≤ 2000000) (hok : ∀ r, r ∈ B → Runs.okR r) : ∀ n, 1 ≤ n → ∀ k s, EbI A B k s → Res (k43l1.ev ⟨pg, 50, none⟩ (rc pg n) s) (Rnd (EbI A B) (fun x s => x = .exit 2 ∧ EbI A B 0 s) k) := by
  rintro n hn k s ⟨x, h, i, d, rfl, hik, v11, v12, v13, v5, hd, hf⟩
  simp only [rnsD] at v11
  by_cases hi : i < B.length
  · obtain ⟨r, hr⟩ : ∃ r, B[i] = r := ⟨_, rfl⟩
    have hro : Runs.okR r := hr ▸ hok _ (List.getElem_mem hi)
    obtain ⟨o1, o2, o3⟩ := hro
    have hF : Runs.FAR = 1000000000 := rfl
    have hsn := endB_snoc (B.take i) r
    rw [← hr, ← take_snoc hi, hr] at hsn
    have hle := endB_len (B.take i)
    have hle2 : (B.take i).length ≤ i := by simp; omega
    have hsn' : A ++ Runs.endB (B.take (i + 1)) = (A ++ Runs.endB (B.take i)) ++ [⟨r.1, 0, 1⟩, ⟨r.2 + 1, 0, -1⟩] := by rw [hsn, List.append_assoc]
    have hlen : (A ++ Runs.endB (B.take i)).length ≤ 8000000 := by rw [List.length_append, hle]; omega
    obtain ⟨O, hO⟩ : ∃ O, O = A ++ Runs.endB (B.take i) := ⟨_, rfl⟩
    rw [← hO] at hd hsn' hlen
    have w1 : IntKind.i64.wrap ((i : Int) + 1) = (i : Int) + 1 := wrap_i64 (by omega) (by omega)
    have w2 : IntKind.i64.wrap (r.2 + 1) = r.2 + 1 := wrap_i64 (by omega) (by omega)
    have hfr : ∀ j, h.raw (h.next + j) = none := fun j => hf _ (by omega)
    rcases hd with ⟨hO0, rfl⟩ | ⟨kk, rfl, hg, hkk⟩
    · subst hO0
      simp [k43l1, v11, v12, v13, v5, hi, hr, w1, w2, D.cells, D.one, hfr, Nat.add_assoc, rnD, rnC, zerosD, apK_some, room, maxLen, List.range_succ]
      refine ⟨k - 1, by omega, _, _, i + 1, .slr (h.next + 144) 0 2 3 none, rfl, by omega, by simp [v11, rnsD], by simp [v12], by simp, by simp, .inr ⟨h.next + 144, by simp [hsn'], by rw [hsn']; simp [eC], by simp <;> omega⟩, ?_⟩
      repeat' first | exact hf | apply Heap.Fr.bump | apply Heap.Fr.set
      all_goals (simp <;> omega)
    · have ne1 : ∀ j, (h.next + j = kk) = False := fun j => by simp; omega
      have ne2 : ∀ j, (kk = h.next + j) = False := fun j => by simp; omega
      have happ := fun t hh news => appS_none (t := t) (et := 74) (sz := 3) (bytes := 24) (h := hh) (m := 2) (news := news) (k := kk) (n := O.length) (cs := O.flatMap eC) (cells_en O) (by omega) (by unfold room; omega) (by unfold maxLen; omega)
      simp [k43l1, v11, v12, v13, v5, hi, hr, w1, w2, D.cells, D.one, hfr, Nat.add_assoc, rnD, rnC, zerosD, apK_some, List.range_succ, hg, ne1, ne2, happ]
      refine ⟨k - 1, by omega, _, _, i + 1, .slr (h.next + 144) 0 (O.length + 2) 3 none, rfl, by omega, by simp [v11, rnsD], by simp [v12], by simp, by simp, .inr ⟨h.next + 144, by rw [hsn']; simp, by rw [hsn']; simp [eC], by simp <;> omega⟩, ?_⟩
      repeat' first | exact hf | apply Heap.Fr.bump | apply Heap.Fr.set
      all_goals (simp <;> omega)
  · simp [k43l1, v12, v13, hi]
    exact ⟨_, _, i, d, rfl, by omega, by simp [v11, rnsD], by simp [v12], by simp [v13], by simp [v5], hd.keep (by simp) (by simp), hf.bump _⟩
end Go.Proofs.YtlddgfkdicgbeaaGreatDoor
/- The ends of runs, sorted by year: the whole function. -/
namespace Go.Proofs.YtlddgfkdicgbeaaGreatDoor
open Go Go.Em
set_option maxRecDepth 100000
def nilD : D := .val (.slice none 0 0)
set_option maxHeartbeats 4000000 in
theorem insn_sh {h : Heap} {n : Nat} (hn : 3 ≤ n) : ∃ h', (rc pg n).fn 107 [nilD, D.int 0, D.int 0, cF] h = some (.ret (.tup []), h') ∧ h.Gr h' := by
  obtain ⟨m, rfl, e⟩ := fn_body (pg := pg) (f := 107) (args := [nilD, D.int 0, D.int 0, cF]) (h := h) (show 0 < n by omega) rfl rfl
  rw [e]
  have w1 : IntKind.i64.wrap 1 = 1 := by decide
  simp [k107, Env.v_ini, nilD, w1, ev_loop]
  refine Res.fin (lp_rule 1 (fun k s => ∃ (x : Env 53) (h1 : Heap), s = ⟨x.l, h1, []⟩ ∧ x.v 2 = D.int 0 ∧ x.v 8 = D.int 1 ∧ h.Gr h1) (fun x s => x = .exit 0 ∧ ∃ (x : Env 53) (h1 : Heap), s = ⟨x.l, h1, []⟩ ∧ h.Gr h1) ?_ 0 m _ (by omega) ⟨_, _, rfl, by simp [Env.v_ini], by simp, (Heap.Gr.refl h).bump _⟩) ?_
  · rintro n _ k s ⟨x, h1, rfl, v2, v8, g⟩
    have q : ¬ (1 : Int) < 0 := by omega
    simp [k107l1, v2, v8]
    exact ⟨_, _, ⟨rfl, rfl⟩, g.bump _⟩
  · rintro x s ⟨rfl, y, h1, rfl, g⟩
    simp
    exact g
set_option maxHeartbeats 4000000 in
theorem pdqn_sh {h : Heap} (L : Int) {n : Nat} (hn : 6 ≤ n) : ∃ h', (rc pg n).fn 80 [nilD, D.int 0, D.int 0, D.int L, cF] h = some (.ret (.tup []), h') ∧ h.Gr h' := by
  obtain ⟨m, rfl, e⟩ := fn_body (pg := pg) (f := 80) (args := [nilD, D.int 0, D.int 0, D.int L, cF]) (h := h) (show 0 < n by omega) rfl rfl
  rw [e]
  simp [k80, ev_loop]
  refine Res.fin2 (lp_rule 4 (fun k s => ∃ (x : Env 148) (h1 : Heap), s = ⟨x.l, h1, []⟩ ∧ x.v 0 = nilD ∧ x.v 1 = D.int 0 ∧ x.v 2 = D.int 0 ∧ x.v 4 = cF ∧ h.Gr h1) (fun x s => x = .ret ∧ ∃ (x : Env 148) (h1 : Heap), s = ⟨x.l, h1, []⟩ ∧ h.Gr h1) ?_ 0 m _ (by omega) ⟨_, _, rfl, by simp [Env.v_ini], by simp [Env.v_ini], by simp [Env.v_ini], by simp [Env.v_ini], ((Heap.Gr.refl h).bump _).bump _⟩) ?_
  · rintro n hn k s ⟨x, h1, rfl, v0, v1, v2, v4, g⟩
    have w0 : IntKind.i64.wrap 0 = 0 := by decide
    obtain ⟨H1, hH1⟩ : ∃ H, H = ((h1.bump 148).bump 148).bump 148 := ⟨_, rfl⟩
    obtain ⟨h2, r1, g2⟩ := insn_sh (h := H1) (n := n) (by omega)
    have c1 := call_sh (pg := pg) (f := 107) rfl r1
    have g3 : h.Gr H1 := by rw [hH1]; exact ((g.bump _).bump _).bump _
    rw [k80l0_eq]
    simp [v0, v1, v2, v4, w0, ← hH1, c1]
    exact ⟨_, _, ⟨rfl, rfl⟩, ⟨Nat.le_trans g3.next g2.next, fun k hk => by rw [g2.raw k (by have := g3.next; omega), g3.raw k hk], fun f => g2.fr (g3.fr f)⟩⟩
  · rintro x s ⟨rfl, y, h1, rfl, g⟩
    simp
    exact g
set_option maxHeartbeats 4000000 in
theorem sortn_sh {h : Heap} {n : Nat} (hn : 10 ≤ n) : ∃ h', (rc pg n).fn 58 [nilD, cF] h = some (.ret (.tup []), h') ∧ h.Gr h' := by
  obtain ⟨m, rfl, e⟩ := fn_body (pg := pg) (f := 58) (args := [nilD, cF]) (h := h) (show 0 < n by omega) rfl rfl
  rw [e]
  obtain ⟨L, hL, hL3⟩ := lenw 0 (by omega) (n := m) (by omega)
  have z0 : ((0 : Nat) : Int) = 0 := rfl
  have c := fun h => call_of (h := h) (pg := pg) (f := 81) rfl rfl hL3
  unfold wordD at c
  rw [z0] at c
  have w5 : IntKind.u64.wrap 0 = 0 := by decide
  obtain ⟨H, hH⟩ : ∃ H, H = (h.bump 14).bump 14 := ⟨_, rfl⟩
  obtain ⟨h2, r1, g2⟩ := pdqn_sh (h := H) L (n := m) (by omega)
  have cs := call_sh (pg := pg) (f := 80) rfl r1
  have g3 : h.Gr H := by rw [hH]; exact ((Heap.Gr.refl h).bump _).bump _
  simp only [nilD] at cs
  simp [k58, Env.v_ini, nilD, w5, c, ← hH, cs]
  exact ⟨Nat.le_trans g3.next g2.next, fun k hk => by rw [g2.raw k (by have := g3.next; omega), g3.raw k hk], fun f => g2.fr (g3.fr f)⟩
theorem Res.endsEx {α : Type} {L : Option (Ex × St)} {id : Nat} {k : St → Option (Ex × St)} {R : Rc} {rs : List (ResultVar × Bool × Nat)} {out : α → Out} {C : α → Prop} {P : Ex → St → Prop} (h : Res L P) (hk : ∀ x s, P x s → ∃ a, C a ∧ endK R rs (andThen (blockK id (some (x, s))) k) = some (out a)) : ∃ a, C a ∧ endK R rs (andThen (blockK id L) k) = some (out a) := by
  obtain ⟨x, s, rfl, p⟩ := h; exact hk x s p
theorem lt_le {x y : EE} (h : lt y x = false) : x.y ≤ y.y := by unfold lt at h; have := of_decide_eq_false h; omega
theorem eref_frz (E : List EE) (h : Heap) : Go.Em.frz h 23 (.eref [.sl false (E.map eD)]) = some (.eref [.sl false (E.map eD)], []) := by
  have := en_can E
  unfold Go.Em.frz
  rw [if_pos (by simp [this])]
theorem vals_call {h : Heap} {d : D} {E : List EE} (g : GE h d E) {n : Nat} (hn : 1 ≤ n) : ∃ h', call pg (rc pg n) 61 [d] h = some (.ret (.fn (.func 83) [] [.eref [ensD E]]), h') := by
  obtain ⟨ks, hz⟩ := g.frz 22
  have he : each (Go.Em.frz h depth) [d] = some ([ensD E], ks ++ []) := by
    show each (Go.Em.frz h 24) [d] = _
    simp only [each, hz]
  exact call_frzk (pg := pg) (f := 61) rfl he (vals_run E hn)
set_option maxHeartbeats 8000000 in
theorem ends_run (a b : List Rn) (ha : a.length ≤ 2000000) (hb : b.length ≤ 2000000) {n : Nat} (hn : 8000001 * (3 * 8000000 + 201) + 100 ≤ n) :
    ∃ E : List EE, E.Perm (Runs.endsL a b) ∧ E.Pairwise (fun x z => x.y ≤ z.y) ∧ pureCall (rc pg n) 43 [rnsD a, rnsD b] = some (.ret (.fn (.func 83) [] [.eref [ensD E]])) := by
  obtain ⟨m, rfl, e⟩ := body (pg := pg) (f := 43) (args := [rnsD a, rnsD b]) (show 0 < n by omega) rfl rfl
  rw [e]
  have ca := fun h => call_of (h := h) (pg := pg) (f := 40) rfl (rns_can a) (clipped_run a (by omega) (n := m) (by omega))
  have cb := fun h => call_of (h := h) (pg := pg) (f := 40) rfl (rns_can b) (clipped_run b (by omega) (n := m) (by omega))
  have hla := clips_le a
  have hlb := clips_le b
  have oka : ∀ r, r ∈ Runs.clips a → Runs.okR r := fun r hr => Runs.clips_ok hr
  have okb : ∀ r, r ∈ Runs.clips b → Runs.okR r := fun r hr => Runs.clips_ok hr
  have hE0 : Runs.endsL a b = Runs.endA (Runs.clips a) ++ Runs.endB (Runs.clips b) := rfl
  obtain ⟨A, hA⟩ : ∃ A, A = Runs.clips a := ⟨_, rfl⟩
  obtain ⟨B, hB⟩ : ∃ B, B = Runs.clips b := ⟨_, rfl⟩
  rw [← hA] at ca hla oka hE0
  rw [← hB] at cb hlb okb hE0
  have heA := endA_len A
  have heB := endB_len B
  simp only [rnsD] at ca cb
  suffices hs : ∃ E : List EE, (E.Perm (Runs.endsL a b) ∧ E.Pairwise (fun x z => x.y ≤ z.y)) ∧ endK (rc pg m) [(ResultVar.tmp 4, false, 0)] (Cd.ev ⟨pg, 50, none⟩ (rc pg m) k43 { e := (Env.ini 50 [rnsD a, rnsD b]).l, h := Heap.empty, df := [] }) = some (.ret (.fn (.func 83) [] [.eref [ensD E]])) by
    obtain ⟨E, ⟨h1, h2⟩, h3⟩ := hs
    exact ⟨E, h1, h2, h3⟩
  simp [k43, Env.v_ini, rnsD, ev_loop, ca]
  refine Res.endsEx (lp_rule 1 (EaI A (rnsD b)) _ (ea_round A (by omega) oka (rnsD b)) A.length m _ (by omega) ⟨_, _, 0, nilD, rfl, by omega, by simp [Env.v_ini, rnsD], by simp [rnsD], by simp, by simp, by simp [nilD], .inl ⟨rfl, rfl⟩, ?_⟩) ?_
  · repeat' first | exact Heap.Fr.empty | apply Heap.Fr.bump | apply Heap.Fr.set
  rintro x s ⟨rfl, x, h, i, d, rfl, hi, v1, v11, v12, v13, v5, hd, hf⟩
  obtain rfl : i = A.length := by omega
  rw [List.take_length] at hd
  simp only [rnsD] at v1
  simp [v1, cb, ev_loop]
  refine Res.endsEx (lp_rule 1 (EbI (Runs.endA A) B) _ (eb_round (Runs.endA A) B (by omega) (by omega) okb) B.length m _ (by omega) ⟨_, _, 0, d, rfl, by omega, by simp [rnsD], by simp, by simp, by simp [v5], ?_, ?_⟩) ?_
  · have : Runs.endA A ++ Runs.endB (B.take 0) = Runs.endA A := by simp [Runs.endB]
    rw [this]
    exact hd.keep (by simp) (by simp)
  · repeat' first | exact hf | apply Heap.Fr.bump | apply Heap.Fr.set
  rintro x s ⟨rfl, y, h1, j, d1, rfl, hj, w29, w30, w31, w5, hd1, hf1⟩
  obtain rfl : j = B.length := by omega
  rw [List.take_length, ← hE0] at hd1
  have hlen : (Runs.endsL a b).length ≤ 8000000 := by rw [hE0, List.length_append, heA, heB]; omega
  obtain ⟨E0, hE⟩ : ∃ E0, E0 = Runs.endsL a b := ⟨_, rfl⟩
  rw [← hE] at hd1 hlen ⊢
  rcases hd1 with ⟨rfl, rfl⟩ | ⟨kk, rfl, hg, hkk⟩
  · obtain ⟨H, hH⟩ : ∃ H, H = h1.bump 50 := ⟨_, rfl⟩
    obtain ⟨h2, r1, g2⟩ := sortn_sh (h := H) (n := m) (by omega)
    have cs := call_sh (pg := pg) (f := 58) rfl r1
    obtain ⟨h3, cv⟩ := vals_call (h := h2.bump 50) (d := nilD) (E := []) (.inl ⟨rfl, rfl⟩) (n := m) (by omega)
    simp only [nilD] at cs cv
    refine ⟨[], ⟨List.Perm.refl _, List.Pairwise.nil⟩, ?_⟩
    simp [w5, ← hH, cs, cv, ensD]
    rw [show [D.eref [D.sl false []]] = [D.eref [D.sl false (([] : List EE).map eD)]] from rfl]
    have := eref_frz [] h3
    rw [List.map_nil] at this ⊢
    rw [this]
    exact ⟨_, rfl⟩
  · have hg' : h1.get kk = some (.cells 74 (eCs E0.toArray)) := by simpa [eCs] using hg
    obtain ⟨H, hH⟩ : ∃ H, H = h1.bump 50 := ⟨_, rfl⟩
    have hgH : H.get kk = some (.cells 74 (eCs E0.toArray)) := by rw [hH]; simpa using hg'
    obtain ⟨h2, r1, d', sd, hp, ho⟩ := sort_sh (h := H) hgH (by rw [hH]; simp; omega) (by rw [hH]; exact hf1.bump 50) (N := E0.length) (by simp) (by omega) none (n := m) (by
      have : (E0.length + 1) * (3 * E0.length + 201) ≤ 8000001 * (3 * 8000000 + 201) := Nat.mul_le_mul (by omega) (by omega)
      omega)
    have cs := call_sh (pg := pg) (f := 58) rfl r1
    have hdl : d'.toList.length = E0.length := by rw [hp.length_eq]
    obtain ⟨h3, cv⟩ := vals_call (h := h2.bump 50) (d := .slr kk 0 E0.length 3 none) (E := d'.toList) (.inr ⟨kk, by rw [hdl], by simpa [eCs] using sd.g, by have := sd.k; have := sd.n; simp; omega⟩) (n := m) (by omega)
    refine ⟨d'.toList, ⟨hp, ho.imp fun h => lt_le h⟩, ?_⟩
    simp [w5, ← hH, cs, cv, ensD]
    rw [eref_frz]
    exact ⟨_, rfl⟩
end Go.Proofs.YtlddgfkdicgbeaaGreatDoor
/- The loop over ends, whatever its body. -/
namespace Go.Proofs.YtlddgfkdicgbeaaGreatDoor
open Go Go.Em
set_option maxRecDepth 100000
structure IterE (K n0 need : Nat) (J : List EE → Heap → Prop) : Prop where
  grow : ∀ l h h', J l h → n0 ≤ h.next → h.Gr h' → J l h'
  step : ∀ n, need ≤ n → ∀ r l h, J (r :: l) h → h.Fr → n0 ≤ h.next → ∃ h', (rc pg n).yl K [.agg [D.int r.y, D.int r.f, D.int r.s]] h = some (.ret (D.bool true), h') ∧ h.next ≤ h'.next ∧ h'.Fr ∧ J l h'
def IeI (E : List EE) (K n0 : Nat) (J : List EE → Heap → Prop) (k : Nat) (s : St) : Prop := ∃ (x : Env 16) (h : Heap) (i : Nat), s = ⟨x.l, h, []⟩ ∧ i + k = E.length ∧ x.v 0 = .yld K ∧ x.v 5 = ensD E ∧ x.v 6 = D.int E.length ∧ x.v 7 = D.int i ∧ J (E.drop i) h ∧ h.Fr ∧ n0 ≤ h.next
set_option maxHeartbeats 4000000 in
theorem ie_round {K n0 need : Nat} {J : List EE → Heap → Prop} (hI : IterE K n0 need J) (E : List EE) (hE : E.length ≤ 8000000) : ∀ n, max need 5 ≤ n → ∀ k s, IeI E K n0 J k s → Res (k83l0.ev ⟨pg, 16, none⟩ (rc pg n) s) (Rnd (IeI E K n0 J) (fun x s => x = .exit 0 ∧ IeI E K n0 J 0 s) k) := by
  rintro n hn k s ⟨x, h, i, rfl, hik, v0, v5, v6, v7, hJ, hf, hn0⟩
  have hfr : ∀ j, h.raw (h.next + j) = none := fun j => hf _ (by omega)
  simp only [ensD] at v5
  by_cases hi : i < E.length
  · obtain ⟨r, hr⟩ : ∃ r, E[i] = r := ⟨_, rfl⟩
    have hd : E.drop i = r :: E.drop (i + 1) := by rw [List.drop_eq_getElem_cons hi, hr]
    rw [hd] at hJ
    have w1 : IntKind.i64.wrap ((i : Int) + 1) = (i : Int) + 1 := wrap_i64 (by omega) (by omega)
    obtain ⟨H, hH⟩ : ∃ H, H = ((((h.bump 16).bump 16).set (h.next + 20) (some (Blk.cells 74 [D.val (Value.int IntKind.i64 0), D.val (Value.int IntKind.i64 0), D.val (Value.int IntKind.i64 0)]))).set
        (h.next + 20) (some (Blk.cells 74 [D.int r.y, D.int r.f, D.int r.s]))).bump 16 := ⟨_, rfl⟩
    have hG : h.Gr H := by
      rw [hH]
      refine Heap.Gr.bump (Heap.Gr.set (Heap.Gr.set (((Heap.Gr.refl h).bump 16).bump 16) _ (by omega) ?_) _ (by omega) ?_) 16 <;> simp <;> omega
    have hHg : H.get (h.next + 20) = some (Blk.cells 74 [D.int r.y, D.int r.f, D.int r.s]) := by rw [hH]; simp
    obtain ⟨h', e, hn', hf', hz⟩ := hI.step n (by omega) r _ H (hI.grow _ _ _ hJ hn0 hG) (hG.fr hf) (by have := hG.next; omega)
    simp [k83l0, v0, v5, v6, v7, hi, hr, eC, D.cells, D.one, hfr, Nat.add_assoc, ← hH, hHg, e, w1]
    refine ⟨k - 1, by omega, _, _, i + 1, rfl, by omega, by simp [v0], by simp [v5, ensD], by simp [v6], by simp, ?_, ?_, ?_⟩
    · have := hG.next
      refine hI.grow _ _ _ hz (by omega) ?_
      repeat' first | exact Heap.Gr.refl _ | refine Heap.Gr.bump ?_ _
    · repeat' first | exact hf' | apply Heap.Fr.bump
    · have := hG.next
      simp; omega
  · simp [k83l0, v6, v7, hi]
    exact ⟨_, _, i, rfl, by omega, by simp [v0], by simp [v5, ensD], by simp [v6], by simp [v7], hI.grow _ _ _ hJ hn0 ((Heap.Gr.refl h).bump _), hf.bump _, by simp; omega⟩
theorem endsIn {o : Option (Ex × St)} {id : Nat} {R : Rc} {rs : List (ResultVar × Bool × Nat)} {P : Ex → St → Prop} {C : Heap → Prop} (h : Res o P) (hk : ∀ x s, P x s → ∃ d h', endH R rs (blockK id (some (x, s))) = some (.ret d, h') ∧ C h') :
    ∃ d h', endH R rs (blockK id o) = some (.ret d, h') ∧ C h' := by
  obtain ⟨x, s, rfl, p⟩ := h; exact hk x s p
theorem iterE_run {K n0 need : Nat} {J : List EE → Heap → Prop} (hI : IterE K n0 need J) (E : List EE) (hE : E.length ≤ 8000000) {h : Heap} (hJ : J E h) (hf : h.Fr) (hn0 : n0 ≤ h.next)
    {n : Nat} (hn : max need 5 + E.length + 2 ≤ n) : ∃ d h', (rc pg n).fn 83 [.yld K, .eref [ensD E]] h = some (.ret d, h') ∧ J [] h' ∧ h'.Fr := by
  obtain ⟨m, rfl, e⟩ := fn_body (pg := pg) (f := 83) (args := [.yld K, .eref [ensD E]]) (h := h) (show 0 < n by omega) rfl rfl
  rw [e]
  have hloop := fun s (hs : IeI E K n0 J E.length s) => lp_rule (max need 5) (IeI E K n0 J) _ (ie_round hI E hE) E.length m s (by omega) hs
  simp [k83, Env.v_ini, ensD, ev_loop]
  refine endsIn (C := fun h' => J [] h' ∧ h'.Fr) (hloop _ ⟨_, _, 0, rfl, by omega, by simp [Env.v_ini], by simp [ensD], by simp, by simp, hI.grow _ _ _ hJ hn0 ((Heap.Gr.refl h).bump 16), hf.bump 16, by simp; omega⟩) ?_
  rintro x s ⟨rfl, y, h', i, rfl, hi, _, _, _, _, hJ', hf', _⟩
  have : E.drop i = [] := List.drop_of_length_le (by omega)
  rw [this] at hJ'
  simp
  exact ⟨_, _, ⟨rfl, rfl⟩, hJ', hf'⟩
end Go.Proofs.YtlddgfkdicgbeaaGreatDoor
/- A run is added to a set that ends ahead of it, by the program. -/
namespace Go.Proofs.YtlddgfkdicgbeaaGreatDoor
open Go Go.Em
set_option maxRecDepth 100000
theorem longR_nil (r : Rn) : Runs.longR [] r = [r] := rfl
theorem longR_snoc (M : List Rn) (s r : Rn) : Runs.longR (M ++ [s]) r = if s.2 + 1 = r.1 then M ++ [(s.1, r.2)] else M ++ [s] ++ [r] := by
  unfold Runs.longR
  simp only [List.getLast?_append, List.getLast?_singleton, Option.some_or, List.dropLast_concat]
theorem longR_len (L : List Rn) (r : Rn) : (Runs.longR L r).length ≤ L.length + 1 := by
  rcases List.eq_nil_or_concat L with rfl | ⟨M, s, rfl⟩
  · rw [longR_nil]; simp
  · rw [List.concat_eq_append, longR_snoc]; split <;> simp
def blkOf (d : D) : Option Nat := match d with
  | .slr k _ _ _ _ => some k
  | _ => none
set_option maxHeartbeats 8000000 in
theorem longer_sh {L : List Rn} {d : D} {r : Rn} {h : Heap} (hd : GR h d L) (hf : h.Fr) (hL : L.length ≤ 10000000) (hs : ∀ s, s ∈ L → Runs.okR s) {n : Nat} (hn : 1 ≤ n) :
    ∃ d' h', (rc pg n).fn 44 [d, .agg [D.int r.1, D.int r.2]] h = some (.ret d', h') ∧ GR h' d' (Runs.longR L r) ∧ h'.Fr ∧ h.next ≤ h'.next ∧ ∀ q, q < h.next → blkOf d ≠ some q → h'.raw q = h.raw q := by
  obtain ⟨m, rfl, e⟩ := fn_body (pg := pg) (f := 44) (args := [d, .agg [D.int r.1, D.int r.2]]) (h := h) (show 0 < n by omega) rfl rfl
  rw [e]
  have hfr : ∀ j, h.raw (h.next + j) = none := fun j => hf _ (by omega)
  rcases hd with ⟨rfl, rfl⟩ | ⟨kk, rfl, hg, hkk⟩
  · have w1 : IntKind.i64.wrap (-1) = -1 := by decide
    simp [k44, Env.v_ini, w1, D.cells, D.one, hfr, Nat.add_assoc, zerosD, apK_some, room, maxLen, List.range_succ]
    refine ⟨_, _, ⟨rfl, rfl⟩, .inr ⟨_, rfl, by simp [longR_nil, rnC], by simp⟩, ?_, ?_, fun q hq _ => ?_⟩
    · repeat' first | exact hf | apply Heap.Fr.bump | apply Heap.Fr.set
      all_goals (simp <;> omega)
    · simp; omega
    · have n1 : ∀ j, (q = h.next + j) = False := fun j => by simp; omega
      simp [n1]
  · have ne1 : ∀ j, (h.next + j = kk) = False := fun j => by simp; omega
    have ne2 : ∀ j, (kk = h.next + j) = False := fun j => by simp; omega
    have hlr := longR_len L r
    rcases List.eq_nil_or_concat L with rfl | ⟨M, s, rfl⟩
    · have happ := fun t hh news => appS_none (t := t) (et := 40) (sz := 2) (bytes := 16) (h := hh) (m := 1) (news := news) (k := kk) (n := 0) (cs := []) (by simp) (by omega) (by unfold room; omega) (by unfold maxLen; omega)
      have w1 : IntKind.i64.wrap (-1) = -1 := by decide
      have hg' : h.get kk = some (.cells 40 []) := hg
      simp [k44, Env.v_ini, w1, D.cells, D.one, hfr, Nat.add_assoc, zerosD, apK_some, List.range_succ, hg', ne1, ne2, happ]
      refine ⟨_, _, ⟨rfl, rfl⟩, .inr ⟨_, rfl, by simp [longR_nil, rnC], by simp⟩, ?_, ?_, fun q hq hb => ?_⟩
      · repeat' first | exact hf | apply Heap.Fr.bump | apply Heap.Fr.set
        all_goals (simp <;> omega)
      · simp; omega
      · have n1 : ∀ j, (q = h.next + j) = False := fun j => by simp; omega
        have n2 : (q = kk) = False := by simp; intro hh; exact hb (by rw [hh]; rfl)
        simp [n1, n2]
    · rw [List.concat_eq_append] at *
      have hos := hs s (by simp)
      obtain ⟨o1, o2, o3⟩ := hos
      have hF : Runs.FAR = 1000000000 := rfl
      have hlen : (M ++ [s]).length = M.length + 1 := by simp
      have w1 : IntKind.i64.wrap ((((M ++ [s]).length : Nat) : Int) - 1) = (M.length : Int) := by rw [hlen, wrap_i64 (by omega) (by omega)]; omega
      have w2 : IntKind.i64.wrap (s.2 + 1) = s.2 + 1 := wrap_i64 (by omega) (by omega)
      rw [longR_snoc] at hlr ⊢
      have hcl := cells_rn (M ++ [s])
      obtain ⟨q, hq⟩ : ∃ q, q = M.length := ⟨_, rfl⟩
      obtain ⟨C, hC⟩ : ∃ C, C = (M ++ [s]).flatMap rnC := ⟨_, rfl⟩
      have hMl := cells_rn M
      have hCe : C = M.flatMap rnC ++ [D.int s.1, D.int s.2] := by rw [hC]; simp [rnC]
      have hCl : C.length = q * 2 + 2 := by rw [hCe, List.length_append, hMl, hq]; rfl
      have f1 : C[q * 2 + 1]?.getD D.junk = D.int s.2 := by
        rw [hCe, List.getElem?_append_right (by rw [hMl, hq]; omega), hMl, hq, show M.length * 2 + 1 - M.length * 2 = 1 by omega]; rfl
      have f2 : ∀ h' : q * 2 + 1 < C.length, C[q * 2 + 1]'h' = D.int s.2 := fun h' => by
        have := f1; rwa [List.getElem?_eq_getElem h'] at this
      have p1 : C.take (q * 2 + 1) ++ D.int r.2 :: C.drop (q * 2 + 2) = (M ++ [(s.1, r.2)]).flatMap rnC := by
        rw [hCe, List.drop_of_length_le (by rw [List.length_append, hMl, hq]; simp), show q * 2 + 1 = (M.flatMap rnC).length + 1 by rw [hMl, hq], List.take_length_add_append]
        simp [rnC]
      rw [← hC] at hg
      rw [← hq] at hlen w1
      obtain ⟨N, hN⟩ : ∃ N, N = (M ++ [s]).length := ⟨_, rfl⟩
      rw [← hN] at hlen w1 ⊢
      have hqN : q < N := by omega
      have happ := fun t hh news => appS_none (t := t) (et := 40) (sz := 2) (bytes := 16) (h := hh) (m := 1) (news := news) (k := kk) (n := N) (cs := C) (by rw [hCl]; omega) (by omega) (by unfold room; omega) (by unfold maxLen; omega)
      have hk0 : (0 : Int) ≤ (q : Int) := by omega
      by_cases hc : s.2 + 1 = r.1
      · rw [if_pos hc]
        have hcc : (s.2 + 1 == r.1) = true := by simp [hc]
        simp [-beq_iff_eq, k44, Env.v_ini, w1, w2, hk0, hqN, D.cells, D.one, hfr, Nat.add_assoc, hg, ne2, hCl, f2, hcc]
        refine ⟨_, _, ⟨rfl, rfl⟩, .inr ⟨kk, by rw [hlen, hq]; simp, by rw [p1]; simp, by simp; omega⟩, ?_, ?_, fun q' hq' hb => ?_⟩
        · repeat' first | exact hf | apply Heap.Fr.bump | apply Heap.Fr.set
          all_goals (simp <;> omega)
        · simp; omega
        · have n1 : ∀ j, (q' = h.next + j) = False := fun j => by simp; omega
          have n2 : (q' = kk) = False := by simp; intro hh; exact hb (by rw [hh]; rfl)
          simp [n1, n2]
      · rw [if_neg hc]
        have hcc : (s.2 + 1 == r.1) = false := by simp [hc]
        simp [-beq_eq_false_iff_ne, k44, Env.v_ini, w1, w2, hk0, hqN, D.cells, D.one, hfr, Nat.add_assoc, zerosD, apK_some, List.range_succ, hg, ne1, ne2, hCl, f2, hcc, happ]
        refine ⟨_, _, ⟨rfl, rfl⟩, .inr ⟨h.next + 131, by rw [hlen, hq]; simp, by rw [hC]; simp [rnC], by simp⟩, ?_, ?_, fun q' hq' hb => ?_⟩
        · repeat' first | exact hf | apply Heap.Fr.bump | apply Heap.Fr.set
          all_goals (simp <;> omega)
        · simp; omega
        · have n1 : ∀ j, (q' = h.next + j) = False := fun j => by simp; omega
          have n2 : (q' = kk) = False := by simp; intro hh; exact hb (by rw [hh]; rfl)
          simp [n1, n2]
end Go.Proofs.YtlddgfkdicgbeaaGreatDoor
