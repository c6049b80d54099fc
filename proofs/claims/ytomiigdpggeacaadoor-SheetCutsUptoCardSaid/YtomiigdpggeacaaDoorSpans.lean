/- Spans between marks: sums of spans, and where a mark stands. -/
import Derived.Test.YtomiigdpggeacaaDoorLen
namespace Go.Proofs.YtomiigdpggeacaaDoor
open Go Go.Em
set_option maxRecDepth 100000
structure Sp where
  a : Int
  b : Int
  lo : Int
  hi : Int
def spC (p : Sp) : List D := [D.int p.a, D.int p.b, D.int p.lo, D.int p.hi]
def spD (p : Sp) : D := .agg (spC p)
def spsD (l : List Sp) : D := .sl false (l.map spD)
theorem spC_len (p : Sp) : (spC p).length = 4 := rfl
theorem spC_canon (p : Sp) : D.canonL (spC p) = true := rfl
theorem sps_canon (l : List Sp) : D.canonL (l.map spD) = true := canonL_map spD (fun _ => rfl) l
def inS (a b : Int) (p : Sp) : Bool := decide (a ≤ p.a) && decide (p.b ≤ b)
/-- The least years from one mark down to another, added up. -/
def sLo (a b : Int) (l : List Sp) : Int := ((l.filter (inS a b)).map (·.lo)).sum
def sHi (a b : Int) (l : List Sp) : Int := ((l.filter (inS a b)).map (·.hi)).sum
theorem sLo_snoc (a b : Int) (l : List Sp) (p : Sp) : sLo a b (l ++ [p]) = sLo a b l + (if inS a b p = true then p.lo else 0) := by
  unfold sLo; rw [List.filter_append]; by_cases h : inS a b p = true <;> simp [h]
theorem sHi_snoc (a b : Int) (l : List Sp) (p : Sp) : sHi a b (l ++ [p]) = sHi a b l + (if inS a b p = true then p.hi else 0) := by
  unfold sHi; rw [List.filter_append]; by_cases h : inS a b p = true <;> simp [h]
/-- Spans that are not too many, of not too many years. -/
def fineS (l : List Sp) : Prop := l.length ≤ 400 ∧ ∀ p ∈ l, (0 ≤ p.lo ∧ p.lo ≤ 400000) ∧ (0 ≤ p.hi ∧ p.hi ≤ 400000)
theorem sum_bound {α : Type} (f : α → Int) : ∀ l : List α, (∀ p ∈ l, 0 ≤ f p ∧ f p ≤ 400000) → 0 ≤ (l.map f).sum ∧ (l.map f).sum ≤ 400000 * l.length
  | [], _ => by simp
  | p :: l, h => by
    have h1 := h p (by simp)
    have h2 := sum_bound f l fun q hq => h q (by simp [hq])
    simp only [List.map_cons, List.sum_cons, List.length_cons]
    omega
theorem sLo_bound {l : List Sp} (h : fineS l) (a b : Int) (i : Nat) : 0 ≤ sLo a b (l.take i) ∧ sLo a b (l.take i) ≤ 160000000 := by
  have := sum_bound (·.lo) ((l.take i).filter (inS a b)) fun p hp => (h.2 p (List.mem_of_mem_take (List.mem_filter.1 hp).1)).1
  have h2 := List.length_filter_le (inS a b) (l.take i)
  have h3 := h.1
  rw [List.length_take] at h2
  unfold sLo; omega
theorem sHi_bound {l : List Sp} (h : fineS l) (a b : Int) (i : Nat) : 0 ≤ sHi a b (l.take i) ∧ sHi a b (l.take i) ≤ 160000000 := by
  have := sum_bound (·.hi) ((l.take i).filter (inS a b)) fun p hp => (h.2 p (List.mem_of_mem_take (List.mem_filter.1 hp).1)).2
  have h2 := List.length_filter_le (inS a b) (l.take i)
  have h3 := h.1
  rw [List.length_take] at h2
  unfold sHi; omega
def SFI (a b : Int) (l : List Sp) (k : Nat) (s : St) : Prop := ∃ (x : Env 37) (h : Heap) (i : Nat), s = ⟨x.l, h, []⟩ ∧ i + k = l.length ∧ x.v 1 = D.int a ∧ x.v 2 = D.int b ∧ x.v 10 = spsD l ∧ x.v 11 = D.int l.length ∧ x.v 12 = D.int i ∧ x.v 6 = D.int (sLo a b (l.take i)) ∧ x.v 7 = D.int (sHi a b (l.take i)) ∧ h.Fr
set_option maxHeartbeats 1000000 in
theorem from_round (a b : Int) (l : List Sp) (hl : fineS l) : ∀ n, 0 ≤ n → ∀ k s, SFI a b l k s → Res (k64l0.ev ⟨pg, 37, none⟩ (rc pg n) s) (Rnd (SFI a b l) (fun x s => x = .exit 0 ∧ SFI a b l 0 s) k) := by
  rintro n hn k s ⟨x, h, i, rfl, hik, v1, v2, v10, v11, v12, v6, v7, hf⟩
  simp only [spsD] at v10
  have hfr : ∀ j, h.raw (h.next + j) = none := fun j => hf _ (by omega)
  by_cases hlt : i < l.length
  · obtain ⟨p, hp⟩ : ∃ p, l[i] = p := ⟨l[i], rfl⟩
    have htake : l.take (i + 1) = l.take i ++ [p] := by rw [List.take_add_one, List.getElem?_eq_getElem hlt, hp]; rfl
    have hl1 := hl.1
    have hb := sLo_bound hl a b (i + 1)
    have hc := sHi_bound hl a b (i + 1)
    have e1 : sLo a b (l.take (i + 1)) = sLo a b (l.take i) + (if inS a b p = true then p.lo else 0) := by rw [htake, sLo_snoc]
    have e2 : sHi a b (l.take (i + 1)) = sHi a b (l.take i) + (if inS a b p = true then p.hi else 0) := by rw [htake, sHi_snoc]
    have hw1 : IntKind.i64.wrap ((i : Int) + 1) = (i : Int) + 1 := wrap_i64 (by omega) (by omega)
    by_cases h1 : a ≤ p.a
    · by_cases h2 : p.b ≤ b
      · have hin : inS a b p = true := by simp [inS, h1, h2]
        rw [if_pos hin] at e1 e2
        have hw2 : IntKind.i64.wrap (sLo a b (l.take i) + p.lo) = sLo a b (l.take (i + 1)) := by rw [← e1]; exact wrap_i64 (by omega) (by omega)
        have hw3 : IntKind.i64.wrap (sHi a b (l.take i) + p.hi) = sHi a b (l.take (i + 1)) := by rw [← e2]; exact wrap_i64 (by omega) (by omega)
        simp [k64l0, v1, v2, v10, v11, v12, v6, v7, hlt, hp, spD, spC, D.cells, D.one, hfr, Nat.add_assoc, hw1, hw2, hw3, h1, h2]
        refine ⟨k - 1, by omega, _, _, i + 1, rfl, by omega, by simp [v1], by simp [v2], by simp [v10, spsD], by simp [v11], by simp, by simp, by simp, ?_⟩
        repeat' first | exact hf | apply Heap.Fr.bump | apply Heap.Fr.set
        all_goals (simp <;> omega)
      · have hin : inS a b p = false := by simp [inS, h2]
        simp only [hin, Bool.false_eq_true, if_false, Int.add_zero] at e1 e2
        simp [k64l0, v1, v2, v10, v11, v12, hlt, hp, spD, spC, D.cells, D.one, hfr, Nat.add_assoc, hw1, h1, h2]
        refine ⟨k - 1, by omega, _, _, i + 1, rfl, by omega, by simp [v1], by simp [v2], by simp [v10, spsD], by simp [v11], by simp, by simp [e1, v6], by simp [e2, v7], ?_⟩
        repeat' first | exact hf | apply Heap.Fr.bump | apply Heap.Fr.set
        all_goals (simp <;> omega)
    · have hin : inS a b p = false := by simp [inS, h1]
      simp only [hin, Bool.false_eq_true, if_false, Int.add_zero] at e1 e2
      simp [k64l0, v1, v10, v11, v12, hlt, hp, spD, spC, D.cells, D.one, hfr, Nat.add_assoc, hw1, h1]
      refine ⟨k - 1, by omega, _, _, i + 1, rfl, by omega, by simp [v1], by simp [v2], by simp [v10, spsD], by simp [v11], by simp, by simp [e1, v6], by simp [e2, v7], ?_⟩
      repeat' first | exact hf | apply Heap.Fr.bump | apply Heap.Fr.set
      all_goals (simp <;> omega)
  · simp [k64l0, v11, v12, hlt]
    exact ⟨_, _, i, rfl, by omega, by simp [v1], by simp [v2], by simp [v10, spsD], by simp [v11], by simp [v12], by simp [v6], by simp [v7], hf.bump _⟩
theorem from_run (a b : Int) (l : List Sp) (hl : fineS l) {n : Nat} (hn : l.length + 5 ≤ n) : pureCall (rc pg n) 64 [spsD l, D.int a, D.int b] = some (.ret (.tup [D.int (sLo a b l), D.int (sHi a b l)])) := by
  obtain ⟨m, rfl, e⟩ := body (pg := pg) (f := 64) (args := [spsD l, D.int a, D.int b]) (show 0 < n by omega) rfl rfl
  rw [e]
  simp [k64, Env.v_ini, spsD, ev_loop]
  refine Res.endsAfter (lp_rule 0 (SFI a b l) _ (from_round a b l hl) l.length m _ (by omega) ⟨_, _, 0, rfl, by omega, by simp [Env.v_ini], by simp [Env.v_ini], by simp [spsD], by simp, by simp, by simp [sLo], by simp [sHi], ?_⟩) ?_
  · repeat' first | exact Heap.Fr.empty | apply Heap.Fr.bump | apply Heap.Fr.set
  rintro x s ⟨rfl, x, h, i, rfl, hi, v1, v2, v10, v11, v12, v6, v7, hf⟩
  obtain rfl : i = l.length := by omega
  rw [List.take_length] at v6 v7
  simp [v6, v7]
/-- The place of the first row of a kind, from a place on; none: -1. -/
def ixF (P : Rw → Bool) : Nat → List Rw → Int
  | _, [] => -1
  | i, r :: l => if P r = true then (i : Int) else ixF P (i + 1) l
def eqR (w r : Rw) : Bool := w.k == r.k && (w.n == r.n && w.m == r.m)
def SXI (w : Rw) (l : List Rw) (k : Nat) (s : St) : Prop := ∃ (x : Env 19) (h : Heap) (i : Nat), s = ⟨x.l, h, []⟩ ∧ i + k = l.length ∧ x.v 0 = rowsD l ∧ x.v 7 = D.int l.length ∧ x.v 8 = D.int i ∧ x.v 3 = .ptr 3 0 ∧ h.get 3 = some (.cells 71 [D.int w.k, D.int w.n, D.int w.m]) ∧ ixF (eqR w) 0 l = ixF (eqR w) i (l.drop i)
def SXQ (w : Rw) (l : List Rw) (x : Ex) (s : St) : Prop :=
  (x = .exit 0 ∧ ixF (eqR w) 0 l = -1 ∧ ∃ (x : Env 19) (h : Heap), s = ⟨x.l, h, []⟩) ∨ (x = .ret ∧ ∃ (x : Env 19) (h : Heap), s = ⟨x.l, h, []⟩ ∧ x.v 4 = D.int (ixF (eqR w) 0 l))
set_option maxHeartbeats 1000000 in
theorem index_round (w : Rw) (l : List Rw) (hl : l.length ≤ 400) : ∀ n, 0 ≤ n → ∀ k s, SXI w l k s → Res (k81l0.ev ⟨pg, 19, none⟩ (rc pg n) s) (Rnd (SXI w l) (SXQ w l) k) := by
  rintro n hn k s ⟨x, h, i, rfl, hik, v0, v7, v8, v3, hg, ho⟩
  simp only [rowsD] at v0
  by_cases hlt : i < l.length
  · obtain ⟨r, hr⟩ : ∃ r, l[i] = r := ⟨l[i], rfl⟩
    have hd : l.drop i = r :: l.drop (i + 1) := by rw [List.drop_eq_getElem_cons hlt, hr]
    rw [hd, ixF] at ho
    have hw1 : IntKind.i64.wrap ((i : Int) + 1) = (i : Int) + 1 := wrap_i64 (by omega) (by omega)
    by_cases he : eqR w r = true
    · rw [if_pos he] at ho
      have he' : (w.k == r.k && (w.n == r.n && w.m == r.m)) = true := he
      simp [k81l0, v0, v7, v8, v3, hg, hlt, hr, rowD, D.cells, he']
      exact .inr ⟨rfl, _, _, rfl, by simp [ho]⟩
    · rw [if_neg he] at ho
      have he' : (w.k == r.k && (w.n == r.n && w.m == r.m)) = false := by simpa [eqR] using he
      simp [k81l0, v0, v7, v8, v3, hg, hlt, hr, rowD, D.cells, he', hw1]
      exact ⟨k - 1, by omega, _, _, i + 1, rfl, by omega, by simp [v0, rowsD], by simp [v7], by simp, by simp [v3], by simp [hg], ho⟩
  · simp [k81l0, v7, v8, hlt]
    have hi : i = l.length := by omega
    rw [hi, List.drop_length] at ho
    exact .inl ⟨rfl, ho, _, _, rfl⟩
theorem ix_run (w : Rw) (l : List Rw) (hl : l.length ≤ 400) {n : Nat} (hn : l.length + 5 ≤ n) : pureCall (rc pg n) 81 [rowsD l, rowD w] = some (.ret (D.int (ixF (eqR w) 0 l))) := by
  obtain ⟨m, rfl, e⟩ := body (pg := pg) (f := 81) (args := [rowsD l, rowD w]) (show 0 < n by omega) rfl rfl
  rw [e]
  simp [k81, Env.v_ini, rowsD, rowD, D.cells, D.one, ev_loop]
  refine Res.endsAfter (lp_rule 0 (SXI w l) (SXQ w l) (index_round w l hl) l.length m _ (by omega) ⟨_, _, 0, rfl, by omega, by simp [Env.v_ini, rowsD], by simp, by simp, by simp, by simp, rfl⟩) ?_
  rintro x s (⟨rfl, ho, x, h, rfl⟩ | ⟨rfl, x, h, rfl, v4⟩)
  · simp [ho]
  · simp [v4]
/-- Where a mark stands in a sheet. -/
def atF (c mk : Int) (l : List Rw) : Int := if (placeF mk).1 = c then ixF (eqR ⟨1, (placeF mk).2, 0⟩) 0 l else -1
theorem rowOf_run (i r c mk : Int) (l : List Rw) (hl : l.length ≤ 400) {n : Nat} (hn : l.length + 10 ≤ n) : pureCall (rc pg n) 53 [D.agg (sheetC i r c l), D.int mk] = some (.ret (D.int (atF c mk l))) := by
  obtain ⟨m, rfl, e⟩ := body (pg := pg) (f := 53) (args := [D.agg (sheetC i r c l), D.int mk]) (show 0 < n by omega) rfl rfl
  rw [e]
  have hp := @place_run m (by omega)
  have hc : D.canonL [rowsD l, rowD ⟨1, (placeF mk).2, 0⟩] = true := by simp [rowsD, rowD, canonL_map rowD (fun _ => rfl) l]
  have hx := fun h => call_of (h := h) (pg := pg) (f := 81) rfl hc (@ix_run ⟨1, (placeF mk).2, 0⟩ l hl m (by omega))
  simp only [rowsD, rowD] at hx
  by_cases h1 : (placeF mk).1 = c
  · have h1' : ((placeF mk).1 != c) = false := by simp [h1]
    simp [k53, Env.v_ini, sheetC, rowsD, D.cells, D.one, hp, h1, hx, atF]
  · have h1' : ((placeF mk).1 != c) = true := by simp [h1]
    simp [k53, Env.v_ini, sheetC, rowsD, D.cells, D.one, hp, h1', h1, atF]
theorem chk_len {i r c : Int} {l : List Rw} (h0 : chkF i r c l = 0) : l.length ≤ 400 := by
  apply len_of_ok
  unfold chkF at h0
  split at h0
  · omega
  · split at h0
    · rename_i h1; exact absurd h0 h1
    · rename_i h1; simpa using h1
/-- The error of a sheet, and of two marks that it must have. -/
def endsF (i r c : Int) (l : List Rw) (a b : Int) : Int := if chkF i r c l ≠ 0 then chkF i r c l else if atF c a l = -1 ∨ atF c b l = -1 then 3 else 0
theorem ends_run (i r c a b : Int) (l : List Rw) {n : Nat} (hn : l.length + 40 ≤ n) : pureCall (rc pg n) 56 [D.agg (sheetC i r c l), D.int a, D.int b] = some (.ret (D.int (endsF i r c l a b))) := by
  obtain ⟨m, rfl, e⟩ := body (pg := pg) (f := 56) (args := [D.agg (sheetC i r c l), D.int a, D.int b]) (show 0 < n by omega) rfl rfl
  rw [e]
  have hc := fun h => call_of (h := h) (pg := pg) (f := 40) rfl (sheet_canon i r c l) (@check_run i r c l m (by omega))
  by_cases h0 : chkF i r c l = 0
  · have hl := chk_len h0
    have hcn : ∀ mk, D.canonL [D.agg (sheetC i r c l), D.int mk] = true := fun mk => by simp [sheetC, rowsD, canonL_map rowD (fun _ => rfl) l]
    have hx := fun mk h => call_of (h := h) (pg := pg) (f := 53) rfl (hcn mk) (@rowOf_run i r c mk l hl m (by omega))
    simp only [sheetC, rowsD] at hc hx
    by_cases h1 : atF c a l = -1
    · have h1' : (atF c a l == -1) = true := by simp [h1]
      simp [k56, Env.v_ini, sheetC, rowsD, D.cells, D.one, hc, h0, hx, h1, endsF]
    · have h1' : (atF c a l == -1) = false := by simp [h1]
      by_cases h2 : atF c b l = -1
      · simp [k56, Env.v_ini, sheetC, rowsD, D.cells, D.one, hc, h0, hx, h1, h1', h2, endsF]
      · have h2' : (atF c b l == -1) = false := by simp [h2]
        simp [k56, Env.v_ini, sheetC, rowsD, D.cells, D.one, hc, h0, hx, h1, h1', h2, h2', endsF]
  · have h0' : (chkF i r c l != 0) = true := by simpa using h0
    simp only [sheetC, rowsD] at hc
    simp [k56, Env.v_ini, sheetC, rowsD, D.cells, D.one, hc, h0, h0', endsF]
end Go.Proofs.YtomiigdpggeacaaDoor
/- The spans of a sheet, by the program. -/
namespace Go.Proofs.YtomiigdpggeacaaDoor
open Go Go.Em
set_option maxRecDepth 100000
/-- The spans of rows, from a mark above them on, with the years that stand between. -/
def spF (c : Int) : Int → Int → Int → List Rw → List Sp
  | _, _, _, [] => []
  | a, x, y, r :: l => if r.k = 1 then (if a = -1 then spF c (markF c r.n) 0 0 l else ⟨a, markF c r.n, x, y⟩ :: spF c (markF c r.n) 0 0 l) else spF c a (x + (natF r).lo) (y + (natF r).hi) l
/-- A list of spans that grows by append. -/
def Gs (h : Heap) (d : D) (l : List Sp) : Prop := (l = [] ∧ d = .val (.slice none 0 0)) ∨ ∃ k, d = .slr k 0 l.length 4 none ∧ h.get k = some (.cells 54 (l.flatMap spC)) ∧ k < h.next
/-- What stands in the one stands in the other. -/
def Kp (h h' : Heap) : Prop := h.next ≤ h'.next ∧ ∀ k t cs, h.get k = some (.cells t cs) → h'.get k = some (.cells t cs)
theorem Kp.of_gr {h h' : Heap} (hf : h.Fr) (g : h.Gr h') : Kp h h' := ⟨g.next, fun k t cs hk => by rw [g.get (Fr_lt hf hk)]; exact hk⟩
theorem Kp.set {h : Heap} {k : Nat} {B : Blk} (hk : h.get k = some B) (hb : ∀ t cs, B ≠ .cells t cs) (b : Option Blk) : Kp h (h.set k b) := ⟨by simp, fun j t cs hj => by
  rw [Heap.get_set, if_neg (by rintro rfl; rw [hj] at hk; exact hb t cs (Option.some.inj hk).symm)]; exact hj⟩
theorem Gs.keep {h h' : Heap} {d : D} {l : List Sp} (g : Gs h d l) (hn : h.next ≤ h'.next) (hk : ∀ k cs, h.get k = some (.cells 54 cs) → h'.get k = some (.cells 54 cs)) : Gs h' d l := by
  rcases g with ⟨rfl, rfl⟩ | ⟨k, rfl, hg, h1⟩
  · exact .inl ⟨rfl, rfl⟩
  · exact .inr ⟨k, rfl, hk _ _ hg, Nat.lt_of_lt_of_le h1 hn⟩
theorem Gs.frozen {h : Heap} {d : D} {l : List Sp} (g : Gs h d l) (n : Nat) : ∃ ks, frz h (n + 2) d = some (spsD l, ks) := by
  rcases g with ⟨rfl, rfl⟩ | ⟨k, rfl, hg, _⟩
  · exact ⟨[], frz_nil⟩
  · have hl4 : (l.flatMap spC).length = l.length * 4 := length_flatMap _ spC_len l
    have hcan : D.canonL (l.flatMap spC) = true := canonL_flatMap _ spC_canon l
    have hch : chunk 4 l.length (l.flatMap spC) = l.map spD := chunk_flatMap _ (by decide) spC_len l _ rfl
    have htk : (l.flatMap spC).take (l.length * 4) = l.flatMap spC := List.take_of_length_le (by omega)
    have hea := each_canon h n (l.flatMap spC) hcan
    exact ⟨[k], by rw [frz_slr, hg, frzS_cells]; simp [htk, hea, hch, hl4, spsD]⟩
def PL (X : Env 47) : Lp := ⟨X.l, [16, 17], k63l0, k63l1, 282, .ready, .normal⟩
/-- What the loop over the rows keeps in its boxes. -/
def PC (c : Int) (l0 l : List Rw) (a : Int) (h : Heap) : Prop := ∃ d x y done, h.get 145 = some (.cells 43 [d]) ∧ h.get 193 = some (.cells 3 [D.int x]) ∧ h.get 194 = some (.cells 3 [D.int y]) ∧
  (0 ≤ x ∧ x + 1000 * l.length ≤ 400000) ∧ (0 ≤ y ∧ y + 1000 * l.length ≤ 400000) ∧ okAll l = true ∧ done ++ spF c a x y l = spF c (-1) 0 0 l0 ∧ done.length + l.length ≤ 400 ∧ Gs h d done
theorem PC.keep {c : Int} {l0 l : List Rw} {a : Int} {h h' : Heap} (p : PC c l0 l a h) (hk : Kp h h') : PC c l0 l a h' := by
  obtain ⟨d, x, y, done, g1, g2, g3, g4, g5, g6, g7, g8, g9⟩ := p
  exact ⟨d, x, y, done, hk.2 _ _ _ g1, hk.2 _ _ _ g2, hk.2 _ _ _ g3, g4, g5, g6, g7, g8, g9.keep hk.1 fun k cs h => hk.2 k _ cs h⟩
def PJ (X : Env 47) (i r c : Int) (l0 l : List Rw) (a : Int) (h : Heap) : Prop :=
  h.get 283 = some (.loop (PL X)) ∧ h.get 1 = some (.cells 25 (sheetC i r c l0)) ∧ h.get 282 = some .mark ∧ h.get 97 = some (.cells 127 [kindsD]) ∧ PC c l0 l a h
set_option maxHeartbeats 4000000 in
theorem spans_iter (X : Env 47) (i r c : Int) (l0 : List Rw) (x1 : X.v 1 = .ptr 1 0) (x3 : X.v 3 = .ptr 97 0) (x4 : X.v 4 = .ptr 145 0) (x5 : X.v 5 = .ptr 193 0) (x6 : X.v 6 = .ptr 194 0) :
    IterH 283 284 c 10 (fun l a h => PJ X i r c l0 l a h ∧ h.Fr) (fun _ => False) := by
  refine ⟨fun l a h h' ⟨⟨g1, g2, g3, g4, g5⟩, gf⟩ hn g => ⟨⟨?_, ?_, ?_, ?_, g5.keep (.of_gr gf g)⟩, g.fr gf⟩, ?_⟩
  · rw [g.get (by omega)]; exact g1
  · rw [g.get (by omega)]; exact g2
  · rw [g.get (by omega)]; exact g3
  · rw [g.get (by omega)]; exact g4
  rintro n hn w l a h ⟨⟨g1, g2, g3, g4, d, x, y, done, g5, g6, g7, gx, gy, gv, gs, gl, gd⟩, _⟩ hf hn0
  obtain ⟨m, rfl⟩ := more_of (show 1 ≤ n by omega)
  have hmp := fun a b => @mark_pure m (by omega) a b
  have hof := fun hh => call_of (h := hh) (pg := pg) (f := 90) rfl rfl (@of_run m (by omega) w)
  simp only [rowD, natD, natC, kindsD] at hof
  have s1 : pg.sh 37 = false := rfl
  have hfr : ∀ j, h.raw (h.next + j) = none := fun j => hf _ (by omega)
  have n1 : ∀ j, (1 = h.next + j) = False := fun j => by simp; omega
  have n2 : ∀ j, (97 = h.next + j) = False := fun j => by simp; omega
  have n3 : ∀ j, (145 = h.next + j) = False := fun j => by simp; omega
  have n4 : ∀ j, (193 = h.next + j) = False := fun j => by simp; omega
  have n5 : ∀ j, (194 = h.next + j) = False := fun j => by simp; omega
  have n6 : ∀ j, (282 = h.next + j) = False := fun j => by simp; omega
  have n7 : ∀ j, (283 = h.next + j) = False := fun j => by simp; omega
  have o3 : ∀ j, (h.next + j = 145) = False := fun j => by simp; omega
  have o4 : ∀ j, (h.next + j = 193) = False := fun j => by simp; omega
  have o5 : ∀ j, (h.next + j = 194) = False := fun j => by simp; omega
  have o7 : ∀ j, (h.next + j = 283) = False := fun j => by simp; omega
  have g2' := g2
  have g4' := g4
  simp only [sheetC] at g2
  simp only [kindsD] at g4
  simp only [okAll, List.all_cons, Bool.and_eq_true] at gv
  simp only [List.length_cons] at gx gy gl
  have hlo := lo_bound w gv.1
  have hhi := hi_bound w gv.1
  have hw1 : IntKind.i64.wrap (x + (natF w).lo) = x + (natF w).lo := wrap_i64 (by omega) (by omega)
  have hw2 : IntKind.i64.wrap (y + (natF w).hi) = y + (natF w).hi := wrap_i64 (by omega) (by omega)
  obtain ⟨L, hL⟩ : ∃ L, L = PL X := ⟨_, rfl⟩
  have le : L.e = X.l := by rw [hL]; rfl
  have lp : L.ps = [16, 17] := by rw [hL]; rfl
  have la : L.as = k63l0 := by rw [hL]; rfl
  have lb : L.bd = k63l1 := by rw [hL]; rfl
  rw [← hL] at g1
  have key := @yl_rule pg m 283 h L [D.int a, rowD w] (fun x h' => x = .normal ∧ h.next ≤ h'.next ∧ h'.Fr ∧ (∀ p cs, 284 ≤ p → h.get p = some (.cells 71 cs) → h'.get p = some (.cells 71 cs)) ∧ h'.get 1 = h.get 1 ∧ h'.get 282 = some .mark ∧
    h'.get 97 = h.get 97 ∧ h'.get 283 = some (.loop L.busy) ∧ PC c l0 l (nextA c a w) h') g1 (by rw [lp]; rfl) (by rw [hL]; rfl) ?_
  · obtain ⟨x, h', hx, ⟨rfl, q1, q2, q3, q4, q5, q6, q7, q8⟩, e⟩ := key
    refine ⟨true, h'.set 283 (some (.loop (L.over .normal))), e, by simp <;> omega, q2.set _ (by omega), fun p cs h1 h2 => ?_, ?_⟩
    · rw [Heap.get_set, if_neg (by omega)]
      exact q3 p cs h1 h2
    · refine ⟨⟨?_, ?_, ?_, ?_, q8.keep (Kp.set q7 (fun _ _ h => by cases h) _)⟩, q2.set _ (by omega)⟩
      · rw [Heap.get_set, if_pos rfl, hL]; rfl
      · rw [Heap.get_set, if_neg (by omega), q4]; exact g2'
      · rw [Heap.get_set, if_neg (by omega), q5]
      · rw [Heap.get_set, if_neg (by omega), q6]; exact g4'
  · by_cases hk1 : w.k = 1
    · have hk1' : (w.k != 1) = false := by simp [hk1]
      by_cases ha : a = -1
      · have ha' : (a != -1) = false := by simp [ha]
        simp only [spF, hk1, if_true, ha] at gs
        simp [le, lp, la, lb, k63l0, k63l1, x5, x6, g1, g2, g3, g4, g6, g7, X.hl, rowD, D.cells, D.one, hfr, Nat.add_assoc, n2, n4, n5, n6, n7, o7, hk1', ha']
        refine ⟨rfl, ?_, fun p cs h1 h2 => ?_, ?_⟩
        · repeat' first | exact hf | apply Heap.Fr.bump | apply Heap.Fr.set
          all_goals (simp <;> omega)
        · have hp := Fr_lt hf h2
          repeat rw [if_neg (by omega)]
          exact h2
        · refine ⟨d, 0, 0, done, by simp [n3, g5], by simp, by simp, by omega, by omega, gv.2, by simpa [nextA, hk1] using gs, by omega, gd.keep (by simp <;> omega) fun k cs hk => ?_⟩
          have hp := Fr_lt hf hk
          have u1 : k ≠ 283 := by rintro rfl; rw [g1] at hk; cases hk
          have u2 : k ≠ 193 := by rintro rfl; rw [g6] at hk; cases hk
          have u3 : k ≠ 194 := by rintro rfl; rw [g7] at hk; cases hk
          have u4 : ∀ j, (k = h.next + j) = False := fun j => by simp; omega
          simp [u1, u2, u3, u4, hk]
      · have ha' : (a != -1) = true := by simp [ha]
        simp only [spF, hk1, if_true, ha, if_false] at gs
        rcases gd with ⟨hl, rfl⟩ | ⟨k1, rfl, hg1, hk2⟩
        · simp [le, lp, la, lb, k63l0, k63l1, x1, x4, x5, x6, g1, g2, g3, g4, g5, g6, g7, X.hl, rowD, D.cells, D.one, hfr, Nat.add_assoc, n2, n3, n4, n5, n6, n7, o7, hk1', ha', hmp, dcore_f, s1, zerosD, apK_some, room, maxLen, List.range_succ]
          refine ⟨rfl, ?_, fun p cs h1 h2 => ?_, ?_⟩
          · repeat' first | exact hf | apply Heap.Fr.bump | apply Heap.Fr.set
            all_goals (simp <;> omega)
          · have hp := Fr_lt hf h2
            repeat rw [if_neg (by omega)]
            exact h2
          · refine ⟨.slr (h.next + 233) 0 1 4 none, 0, 0, done ++ [⟨a, markF c w.n, x, y⟩], by simp, by simp, by simp, by omega, by omega, gv.2, by simpa [nextA, hk1] using gs, by simp <;> omega, .inr ⟨h.next + 233, by simp [hl], by simp [hl, spC, o3, o4, o5], by simp <;> omega⟩⟩
        · have e1 : ∀ j, (k1 = h.next + j) = False := fun j => by simp; omega
          have e2 : ∀ j, (h.next + j = k1) = False := fun j => by simp; omega
          have u1 : k1 ≠ 283 := by rintro rfl; rw [g1] at hg1; cases hg1
          have u2 : k1 ≠ 193 := by rintro rfl; rw [g6] at hg1; cases hg1
          have u3 : k1 ≠ 194 := by rintro rfl; rw [g7] at hg1; cases hg1
          have u4 : k1 ≠ 145 := by rintro rfl; rw [g5] at hg1; cases hg1
          have u5 : k1 ≠ 1 := by rintro rfl; rw [g2] at hg1; cases hg1
          have u6 : k1 ≠ 282 := by rintro rfl; rw [g3] at hg1; cases hg1
          have u7 : k1 ≠ 97 := by rintro rfl; rw [g4] at hg1; cases hg1
          have w1 := u1.symm
          have w2 := u2.symm
          have w3 := u3.symm
          have w4 := u4.symm
          have w5 := u5.symm
          have w6 := u6.symm
          have w7 := u7.symm
          have hl4 : (done.flatMap spC).length = done.length * 4 := length_flatMap _ spC_len done
          have happ := fun t hh news => appS_none (t := t) (et := 54) (sz := 4) (bytes := 32) (h := hh) (m := 1) (news := news) (k := k1) (n := done.length) (cs := done.flatMap spC) hl4 (by omega) (by unfold room; omega) (by unfold maxLen; omega)
          simp [le, lp, la, lb, k63l0, k63l1, x1, x4, x5, x6, g1, g2, g3, g4, g5, g6, g7, X.hl, rowD, D.cells, D.one, hfr, Nat.add_assoc, n2, n3, n4, n5, n6, n7, o7, hk1', ha', hmp, dcore_f, s1, zerosD, apK_some, List.range_succ, hg1, e1, e2, u1, w1, w2, w3, w4, w5, w6, w7, happ]
          refine ⟨rfl, ?_, fun p cs h1 h2 => ?_, ?_⟩
          · repeat' first | exact hf | apply Heap.Fr.bump | apply Heap.Fr.set
            all_goals (simp <;> omega)
          · have hp := Fr_lt hf h2
            have hpk : p ≠ k1 := by rintro rfl; rw [hg1] at h2; cases h2
            repeat rw [if_neg (by omega)]
            exact h2
          · refine ⟨.slr (h.next + 233) 0 (done.length + 1) 4 none, 0, 0, done ++ [⟨a, markF c w.n, x, y⟩], by simp, by simp, by simp, by omega, by omega, gv.2, by simpa [nextA, hk1] using gs, by simp <;> omega, .inr ⟨h.next + 233, by simp, by simp [spC, o3, o4, o5], by simp <;> omega⟩⟩
    · have hk1' : (w.k != 1) = true := by simp [hk1]
      simp only [spF, hk1, if_false] at gs
      simp [le, lp, la, lb, k63l0, k63l1, x3, x5, x6, g1, g2, g3, g4, g6, g7, X.hl, rowD, D.cells, D.one, hfr, Nat.add_assoc, n2, n4, n5, n6, n7, o4, o7, hk1', hof, hw1, hw2]
      refine ⟨rfl, ?_, fun p cs h1 h2 => ?_, ?_⟩
      · repeat' first | exact hf | apply Heap.Fr.bump | apply Heap.Fr.set
        all_goals (simp <;> omega)
      · have hp := Fr_lt hf h2
        repeat rw [if_neg (by omega)]
        exact h2
      · refine ⟨d, x + (natF w).lo, y + (natF w).hi, done, by simp [n3, g5], by simp, by simp, by omega, by omega, gv.2, by simpa [nextA, hk1] using gs, by omega, gd.keep (by simp <;> omega) fun k cs hk => ?_⟩
        have hp := Fr_lt hf hk
        have u1 : k ≠ 283 := by rintro rfl; rw [g1] at hk; cases hk
        have u2 : k ≠ 193 := by rintro rfl; rw [g6] at hk; cases hk
        have u3 : k ≠ 194 := by rintro rfl; rw [g7] at hk; cases hk
        have u4 : ∀ j, (k = h.next + j) = False := fun j => by simp; omega
        simp [u1, u2, u3, u4, hk]
end Go.Proofs.YtomiigdpggeacaaDoor
/- The spans of a sheet, and the span between two marks, by the program. -/
namespace Go.Proofs.YtomiigdpggeacaaDoor
open Go Go.Em
set_option maxRecDepth 100000
/-- What the loop over the rows leaves. -/
def SPq (c : Int) (l : List Rw) (x : Ex) (s : St) : Prop := x = .normal ∧ ∃ (X : Env 47) (h : Heap) (d : D), s = ⟨X.l, h, [.mark 282]⟩ ∧ X.v 4 = .ptr 145 0 ∧ h.get 282 = some .mark ∧ h.get 145 = some (.cells 43 [d]) ∧ Gs h d (spF c (-1) 0 0 l)
theorem spans_tail (X : Env 47) (h0 : Heap) (i r c : Int) (l : List Rw) (hl : l.length ≤ 400) (hv : okAll l = true) (hnext : h0.next = 282) (hf : h0.Fr) (g1 : h0.get 1 = some (.cells 25 (sheetC i r c l))) (g2 : h0.get 97 = some (.cells 127 [kindsD]))
    (g3 : h0.get 145 = some (.cells 43 [.val (.slice none 0 0)])) (g4 : h0.get 193 = some (.cells 3 [D.int 0])) (g5 : h0.get 194 = some (.cells 3 [D.int 0]))
    (x1 : X.v 1 = .ptr 1 0) (x3 : X.v 3 = .ptr 97 0) (x4 : X.v 4 = .ptr 145 0) (x5 : X.v 5 = .ptr 193 0) (x6 : X.v 6 = .ptr 194 0) (x15 : X.v 15 = .fn (.func 88) [] [.eref (sheetC i r c l)]) {m : Nat} (hn : l.length + 15 ≤ m) :
    Res (Cd.ev ⟨pg, 47, none⟩ (rc pg m) (.rangeF (.s 15) [16, 17] k63l0 k63l1) { e := X.l, h := h0, df := [] }) (SPq c l) := by
  refine Res.rangeF rfl (f := 88) (fs := []) (cs := [.eref (sheetC i r c l)]) x15 hf ?_
  obtain ⟨H, hH⟩ : ∃ H, H = (((h0.bump 2).set h0.next (some .mark)).set (h0.next + 1) (some (.loop ⟨X.l, [16, 17], k63l0, k63l1, h0.next, .ready, .normal⟩))) := ⟨_, rfl⟩
  have hHf : H.Fr := by
    rw [hH]
    refine ((hf.bump 2).set _ ?_).set _ ?_ <;> simp
  have hJ : PJ X i r c l l (-1) H ∧ H.Fr := by
    refine ⟨⟨?_, ?_, ?_, ?_, .val (.slice none 0 0), 0, 0, [], ?_, ?_, ?_, by omega, by omega, hv, rfl, by simpa using hl, .inl ⟨rfl, rfl⟩⟩, hHf⟩
    · rw [hH, hnext]; simp [PL]
    · rw [hH, hnext]; simp [g1]
    · rw [hH, hnext]; simp
    · rw [hH, hnext]; simp [g2]
    · rw [hH, hnext]; simp [g3]
    · rw [hH, hnext]; simp [g4]
    · rw [hH, hnext]; simp [g5]
  obtain ⟨d, h3, e, hz⟩ := iter_run (spans_iter X i r c l x1 x3 x4 x5 x6) i r l hl hJ hHf (by rw [hH]; simp [hnext]) (n := m) (by omega)
  rw [hH, hnext] at e
  rcases hz with ⟨a, ⟨j1, j2, j3, j4, d', x', y', done, j5, j6, j7, _, _, _, j8, _, j9⟩, jf⟩ | hz
  · simp only [spF, List.append_nil] at j8
    subst j8
    refine ⟨d, h3, PL X, by rw [hnext]; exact e, by rw [hnext]; exact j1, (show LoopState.ready ≠ LoopState.busy by decide), rfl, rfl, X, _, d', by rw [hnext], x4, ?_, ?_, ?_⟩
    · rw [Heap.get_set, if_neg (by omega)]; exact j3
    · rw [Heap.get_set, if_neg (by omega)]; exact j5
    · exact j9.keep (by simp) fun k cs hk => by
        rw [Heap.get_set, if_neg (by rintro rfl; rw [j1] at hk; cases hk), hk]
  · exact hz.elim
/-- A sheet's spans. -/
def shSpans (i r c : Int) (l : List Rw) : List Sp := if chkF i r c l = 0 then spF c (-1) 0 0 l else []
theorem chk_ok {i r c : Int} {l : List Rw} (h0 : chkF i r c l = 0) : okAll l = true := by
  unfold chkF at h0
  split at h0
  · omega
  · split at h0
    · rename_i h1; exact absurd h0 h1
    · rename_i h1; exact ok_of (by simpa using h1)
set_option maxHeartbeats 1000000 in
theorem spans_run (i r c : Int) (l : List Rw) {n : Nat} (hn : l.length + 40 ≤ n) : pureCall (rc pg n) 63 [D.agg (sheetC i r c l)] = some (.ret (spsD (shSpans i r c l))) := by
  obtain ⟨m, rfl, e⟩ := body (pg := pg) (f := 63) (args := [D.agg (sheetC i r c l)]) (show 0 < n by omega) rfl rfl
  rw [e]
  have hc := fun h => call_of (h := h) (pg := pg) (f := 40) rfl (sheet_canon i r c l) (@check_run i r c l m (by omega))
  have hk := fun h => call_of (h := h) (pg := pg) (f := 89) rfl rfl (@kinds_run m (by omega))
  have hbel := fun h => call_of (h := h) (pg := pg) (f := 61) rfl (sheet_canon i r c l) (@below_run m (by omega) i r c l)
  simp only [sheetC, rowsD] at hc hbel
  simp only [kindsD] at hk
  by_cases h0 : chkF i r c l = 0
  · have hl := chk_len h0
    simp [k63, Env.v_ini, sheetC, rowsD, D.cells, D.one, hc, h0, hbel, hk]
    refine Res.endsAfter (spans_tail _ _ i r c l hl (chk_ok h0) (by simp) ?_ (by simp [sheetC, rowsD]) (by simp [kindsD]) (by simp) (by simp) (by simp) (by simp) (by simp) (by simp) (by simp) (by simp) (by simp [sheetC, rowsD]) (by omega)) ?_
    · repeat' first | exact Heap.Fr.empty | apply Heap.Fr.bump | apply Heap.Fr.set
      all_goals simp
    rintro x s ⟨rfl, X, h, d, rfl, x4, hg, hb, hd⟩
    have hd' : Gs ((h.bump 47).set 282 none) d (spF c (-1) 0 0 l) := hd.keep (by simp) fun k cs hk => by
      rw [Heap.get_set, if_neg (by rintro rfl; rw [hg] at hk; cases hk), Heap.get_bump']; exact hk
    obtain ⟨ks, hfz⟩ := hd'.frozen 22
    simp [x4, hb, hg, shSpans, h0, hfz]
  · have h0' : (chkF i r c l != 0) = true := by simpa using h0
    simp [k63, Env.v_ini, sheetC, rowsD, D.cells, D.one, hc, h0', h0, shSpans, spsD]
theorem spF_fine (c : Int) : ∀ (l : List Rw) (a x y : Int), okAll l = true → 0 ≤ x → 0 ≤ y → x + 1000 * l.length ≤ 400000 → y + 1000 * l.length ≤ 400000 → (spF c a x y l).length ≤ l.length ∧ ∀ p ∈ spF c a x y l, (0 ≤ p.lo ∧ p.lo ≤ 400000) ∧ (0 ≤ p.hi ∧ p.hi ≤ 400000)
  | [], _, _, _, _, _, _, _, _ => by simp [spF]
  | r :: l, a, x, y, hv, hx, hy, h1, h2 => by
    simp only [okAll, List.all_cons, Bool.and_eq_true] at hv
    have hlo := lo_bound r hv.1
    have hhi := hi_bound r hv.1
    simp only [List.length_cons] at h1 h2 ⊢
    have i1 := spF_fine c l (markF c r.n) 0 0 hv.2 (by omega) (by omega) (by omega) (by omega)
    have i2 := spF_fine c l a (x + (natF r).lo) (y + (natF r).hi) hv.2 (by omega) (by omega) (by omega) (by omega)
    unfold spF
    split
    · split
      · exact ⟨by omega, i1.2⟩
      · refine ⟨by simp; omega, fun p hp => ?_⟩
        rcases List.mem_cons.1 hp with rfl | hp
        · exact ⟨by simp only; omega, by simp only; omega⟩
        · exact i1.2 p hp
    · exact ⟨by omega, i2.2⟩
theorem shSpans_fine (i r c : Int) (l : List Rw) : fineS (shSpans i r c l) := by
  unfold shSpans
  split
  · rename_i h0
    have hl := chk_len h0
    have := spF_fine c l (-1) 0 0 (chk_ok h0) (by omega) (by omega) (by omega) (by omega)
    exact ⟨by omega, this.2⟩
  · exact ⟨by simp, by simp⟩
/-- The program's span between two marks. -/
def btwF (i r c : Int) (l : List Rw) (a b : Int) : Sp × Int :=
  if endsF i r c l a b ≠ 0 then (⟨0, 0, 0, 0⟩, endsF i r c l a b)
  else if b < a then (⟨a, b, - sHi b a (shSpans i r c l), - sLo b a (shSpans i r c l)⟩, 0)
  else (⟨a, b, sLo a b (shSpans i r c l), sHi a b (shSpans i r c l)⟩, 0)
set_option maxHeartbeats 1000000 in
theorem between_run (i r c a b : Int) (l : List Rw) {n : Nat} (hn : l.length + 500 ≤ n) : pureCall (rc pg n) 33 [D.agg (sheetC i r c l), D.int a, D.int b] = some (.ret (.tup [spD (btwF i r c l a b).1, D.int (btwF i r c l a b).2])) := by
  obtain ⟨m, rfl, e⟩ := body (pg := pg) (f := 33) (args := [D.agg (sheetC i r c l), D.int a, D.int b]) (show 0 < n by omega) rfl rfl
  rw [e]
  have hcn : D.canonL [D.agg (sheetC i r c l), D.int a, D.int b] = true := by simp [sheetC, rowsD, canonL_map rowD (fun _ => rfl) l]
  have he := fun h => call_of (h := h) (pg := pg) (f := 56) rfl hcn (@ends_run i r c a b l m (by omega))
  have hs := fun h => call_of (h := h) (pg := pg) (f := 63) rfl (sheet_canon i r c l) (@spans_run i r c l m (by omega))
  have hfine := shSpans_fine i r c l
  have hl4 := hfine.1
  have hcs : ∀ u v : Int, D.canonL [spsD (shSpans i r c l), D.int u, D.int v] = true := fun u v => by simp [spsD, sps_canon]
  have hf := fun u v h => call_of (h := h) (pg := pg) (f := 64) rfl (hcs u v) (@from_run u v _ hfine m (by omega))
  simp only [sheetC, rowsD, spsD] at he hs hf
  by_cases h0 : endsF i r c l a b = 0
  · have b1 := sLo_bound hfine b a (shSpans i r c l).length
    have b2 := sHi_bound hfine b a (shSpans i r c l).length
    rw [List.take_length] at b1 b2
    have hw1 : IntKind.i64.wrap (- sLo b a (shSpans i r c l)) = - sLo b a (shSpans i r c l) := wrap_i64 (by omega) (by omega)
    have hw2 : IntKind.i64.wrap (- sHi b a (shSpans i r c l)) = - sHi b a (shSpans i r c l) := wrap_i64 (by omega) (by omega)
    by_cases h1 : b < a
    · simp [k33, Env.v_ini, sheetC, rowsD, D.cells, D.one, he, h0, hs, hf, h1, btwF, spD, spC, hw1, hw2]
    · simp [k33, Env.v_ini, sheetC, rowsD, D.cells, D.one, he, h0, hs, hf, h1, btwF, spD, spC]
  · have h0' : (endsF i r c l a b != 0) = true := by simpa using h0
    simp [k33, Env.v_ini, sheetC, rowsD, D.cells, D.one, he, h0, h0', btwF, spD, spC]
end Go.Proofs.YtomiigdpggeacaaDoor
/- The span between two marks, by the document. -/
namespace Go.Proofs.YtomiigdpggeacaaDoor
open Go Go.Em
set_option maxRecDepth 100000
def rP (core no c : Int) (r : Rw) : Bool := core == c && (r.k == 1 && r.n == no)
def rAtF (c mk : Int) (l : List Rw) : Int := ixF (rP (placeF mk).1 (placeF mk).2 c) 0 l
theorem ix_same (P Q : Rw → Bool) : ∀ (l : List Rw) (i : Nat), (∀ r ∈ l, P r = Q r) → ixF P i l = ixF Q i l
  | [], _, _ => rfl
  | r :: l, i, h => by
    unfold ixF
    rw [h r (by simp), ix_same P Q l (i + 1) fun q hq => h q (by simp [hq])]
theorem ix_none (P : Rw → Bool) : ∀ (l : List Rw) (i : Nat), (∀ r ∈ l, P r = false) → ixF P i l = -1
  | [], _, _ => rfl
  | r :: l, i, h => by
    unfold ixF
    rw [h r (by simp), ix_none P l (i + 1) fun q hq => h q (by simp [hq])]
    rfl
theorem at_same (c mk : Int) (l : List Rw) (hv : okAll l = true) : rAtF c mk l = atF c mk l := by
  unfold rAtF atF
  by_cases h : (placeF mk).1 = c
  · rw [if_pos h]
    refine ix_same _ _ _ _ fun r hr => ?_
    have hvr : (natF r).valid = true := List.all_eq_true.1 hv r hr
    unfold rP eqR
    by_cases hk : r.k = 1
    · have hm : r.m = 0 := by simp [natF, hk] at hvr; exact hvr.2
      simp [h, hk, hm]
      exact BEq.comm
    · have h1 : (r.k == 1) = false := by simpa using hk
      have h2 : ((1 : Int) == r.k) = false := by simp; exact fun h => hk h.symm
      simp [h1, h2]
  · rw [if_neg h]
    refine ix_none _ _ _ fun r _ => ?_
    have : ((placeF mk).1 == c) = false := by simpa using h
    simp [rP, this]
def SRI (sc : List D) (core no c : Int) (l : List Rw) (k : Nat) (s : St) : Prop := ∃ (x : Env 44) (h : Heap) (i : Nat), s = ⟨x.l, h, []⟩ ∧ i + k = l.length ∧ h.get 2 = some (.cells 25 sc) ∧ x.v 2 = .ptr 2 0 ∧ x.v 5 = D.int core ∧ x.v 6 = D.int no ∧ x.v 7 = D.int i ∧ ixF (rP core no c) 0 l = ixF (rP core no c) i (l.drop i)
def SRQ (core no c : Int) (l : List Rw) (x : Ex) (s : St) : Prop :=
  (x = .exit 0 ∧ ixF (rP core no c) 0 l = -1 ∧ ∃ (x : Env 44) (h : Heap), s = ⟨x.l, h, []⟩) ∨ (x = .ret ∧ ∃ (x : Env 44) (h : Heap), s = ⟨x.l, h, []⟩ ∧ x.v 4 = D.int (ixF (rP core no c) 0 l))
set_option maxHeartbeats 1000000 in
theorem rat_round (i0 r0 c core no : Int) (l : List Rw) (hl : l.length ≤ 400) : ∀ n, 0 ≤ n → ∀ k s, SRI (sheetC i0 r0 c l) core no c l k s → Res (k82l0.ev ⟨pg, 44, none⟩ (rc pg n) s) (Rnd (SRI (sheetC i0 r0 c l) core no c l) (SRQ core no c l) k) := by
  rintro n hn k s ⟨x, h, i, rfl, hik, hg, v2, v5, v6, v7, ho⟩
  simp only [sheetC, rowsD] at hg
  by_cases hlt : i < l.length
  · obtain ⟨r, hr⟩ : ∃ r, l[i] = r := ⟨l[i], rfl⟩
    have hd : l.drop i = r :: l.drop (i + 1) := by rw [List.drop_eq_getElem_cons hlt, hr]
    rw [hd, ixF] at ho
    have hw1 : IntKind.i64.wrap ((i : Int) + 1) = (i : Int) + 1 := wrap_i64 (by omega) (by omega)
    by_cases h1 : core = c
    · have h1' : (core == c) = true := by simp [h1]
      by_cases h2 : r.k = 1
      · have h2' : (r.k == 1) = true := by simp [h2]
        by_cases h3 : r.n = no
        · have h3' : (r.n == no) = true := by simp [h3]
          rw [if_pos (by simp [rP, h1, h2, h3])] at ho
          simp [k82l0, v2, v5, v6, v7, hg, hlt, hr, rowD, D.cells, h1', h2', h3']
          exact .inr ⟨rfl, _, _, rfl, by simp [ho]⟩
        · have h3' : (r.n == no) = false := by simp [h3]
          rw [if_neg (by simp [rP, h3])] at ho
          simp [k82l0, v2, v5, v6, v7, hg, hlt, hr, rowD, D.cells, h1', h2', h3', hw1]
          exact ⟨k - 1, by omega, _, _, i + 1, rfl, by omega, by simp [hg, sheetC, rowsD], by simp [v2], by simp [v5], by simp [v6], by simp, ho⟩
      · have h2' : (r.k == 1) = false := by simp [h2]
        rw [if_neg (by simp [rP, h2])] at ho
        simp [k82l0, v2, v5, v7, hg, hlt, hr, rowD, D.cells, h1', h2', hw1]
        exact ⟨k - 1, by omega, _, _, i + 1, rfl, by omega, by simp [hg, sheetC, rowsD], by simp [v2], by simp [v5], by simp [v6], by simp, ho⟩
    · have h1' : (core == c) = false := by simp [h1]
      rw [if_neg (by simp [rP, h1])] at ho
      simp [k82l0, v2, v5, v7, hg, hlt, h1', hw1]
      exact ⟨k - 1, by omega, _, _, i + 1, rfl, by omega, by simp [hg, sheetC, rowsD], by simp [v2], by simp [v5], by simp [v6], by simp, ho⟩
  · simp [k82l0, v2, v7, hg, hlt]
    have hi : i = l.length := by omega
    rw [hi, List.drop_length] at ho
    exact .inl ⟨rfl, ho, _, _, rfl⟩
theorem rat_run (i r c mk : Int) (l : List Rw) (hl : l.length ≤ 400) {n : Nat} (hn : l.length + 10 ≤ n) : pureCall (rc pg n) 82 [D.agg (sheetC i r c l), D.int mk] = some (.ret (D.int (rAtF c mk l))) := by
  obtain ⟨m, rfl, e⟩ := body (pg := pg) (f := 82) (args := [D.agg (sheetC i r c l), D.int mk]) (show 0 < n by omega) rfl rfl
  rw [e]
  have hp := fun a h => call_of (h := h) (pg := pg) (f := 104) rfl rfl (@rplace_run m (by omega) a)
  simp [k82, Env.v_ini, sheetC, rowsD, D.cells, D.one, hp, ev_loop]
  refine Res.endsAfter (lp_rule 0 (SRI (sheetC i r c l) (placeF mk).1 (placeF mk).2 c l) (SRQ (placeF mk).1 (placeF mk).2 c l) (rat_round i r c _ _ l hl) l.length m _ (by omega) ⟨_, _, 0, rfl, by omega, by simp [sheetC, rowsD], by simp, by simp, by simp, by simp, rfl⟩) ?_
  rintro x s (⟨rfl, ho, x, h, rfl⟩ | ⟨rfl, x, h, rfl, v4⟩)
  · simp [rAtF, ho]
  · simp [rAtF, v4]
theorem ix_ge (P : Rw → Bool) : ∀ (l : List Rw) (i : Nat), ixF P i l = -1 ∨ ∃ j : Nat, ixF P i l = (j : Int) ∧ i ≤ j ∧ j < i + l.length
  | [], _ => .inl rfl
  | r :: l, i => by
    unfold ixF
    split
    · exact .inr ⟨i, rfl, by omega, by simp⟩
    · rcases ix_ge P l (i + 1) with h | ⟨j, h1, h2, h3⟩
      · exact .inl h
      · exact .inr ⟨j, h1, by omega, by simp; omega⟩
theorem at_ge (c mk : Int) (l : List Rw) : atF c mk l = -1 ∨ ∃ j : Nat, atF c mk l = (j : Int) ∧ j < l.length := by
  unfold atF
  split
  · rcases ix_ge (eqR ⟨1, (placeF mk).2, 0⟩) l 0 with h | ⟨j, h1, h2, h3⟩
    · exact .inl h
    · exact .inr ⟨j, h1, by omega⟩
  · exact .inl rfl
/-- The rows from one place to another. -/
def midF (l : List Rw) (i k : Nat) : List Rw := (l.drop (min i k)).take (max i k - min i k)
/-- The document's span between two marks. -/
def rbtwF (i r c : Int) (l : List Rw) (a b : Int) : Sp × Int :=
  if endsF i r c l a b ≠ 0 then (⟨0, 0, 0, 0⟩, endsF i r c l a b)
  else if atF c b l < atF c a l then (⟨a, b, - (hiSum (midF l (atF c a l).toNat (atF c b l).toNat)), - (loSum (midF l (atF c a l).toNat (atF c b l).toNat))⟩, 0)
  else (⟨a, b, loSum (midF l (atF c a l).toNat (atF c b l).toNat), hiSum (midF l (atF c a l).toNat (atF c b l).toNat)⟩, 0)
theorem okAll_mid {l : List Rw} (hv : okAll l = true) (i k : Nat) : okAll (midF l i k) = true := by
  unfold okAll at hv ⊢
  rw [List.all_eq_true] at hv ⊢
  exact fun a ha => hv a (List.mem_of_mem_drop (List.mem_of_mem_take ha))
theorem hiSum_app (a b : List Rw) : hiSum (a ++ b) = hiSum a + hiSum b := by simp [hiSum]
theorem loSum_app (a b : List Rw) : loSum (a ++ b) = loSum a + loSum b := by simp [loSum]
theorem hiSum_part {l : List Rw} (hv : okAll l = true) (i n : Nat) : hiSum ((l.drop i).take n) ≤ hiSum l := by
  have e1 : l = l.take i ++ ((l.drop i).take n ++ (l.drop i).drop n) := by rw [List.take_append_drop, List.take_append_drop]
  have hh : ∀ q : List Rw, (∀ r ∈ q, r ∈ l) → 0 ≤ hiSum q := fun q hq => (hiSum_bound q (by
    unfold okAll at hv ⊢
    rw [List.all_eq_true] at hv ⊢
    exact fun a ha => hv a (hq a ha))).1
  have h1 := hh (l.take i) fun r hr => List.mem_of_mem_take hr
  have h2 := hh ((l.drop i).drop n) fun r hr => List.mem_of_mem_drop (List.mem_of_mem_drop hr)
  have e2 : hiSum l = hiSum (l.take i) + (hiSum ((l.drop i).take n) + hiSum ((l.drop i).drop n)) := by
    rw [← hiSum_app, ← hiSum_app, ← e1]
  omega
theorem years_mid {l : List Rw} (h : (natsF l).2 = 0) (i k : Nat) : yearsF (midF l i k) = (loSum (midF l i k), hiSum (midF l i k), 0) := by
  have hv := ok_of h
  have hl := len_of_ok h
  have h1 : ¬ 400 < (midF l i k).length := by unfold midF; simp; omega
  have h3 : hiSum l ≤ 100000 := by
    unfold natsF at h
    split at h
    · simp at h
    · split at h
      · simp at h
      · split at h
        · simp at h
        · omega
  have h2 : ¬ 100000 < hiSum (midF l i k) := by
    have := hiSum_part hv (min i k) (max i k - min i k)
    unfold midF; omega
  have e : (natsF (midF l i k)).2 = 0 := by unfold natsF; rw [if_neg h1, if_neg (by rw [okAll_mid hv]; decide), if_neg h2]
  unfold yearsF
  rw [if_pos e]
theorem rows_head (l : List Rw) : headOk 3 (l.map rowD) = true := by cases l <;> rfl
theorem chk_nats {i r c : Int} {l : List Rw} (h0 : chkF i r c l = 0) : (natsF l).2 = 0 := by
  unfold chkF at h0
  split at h0
  · omega
  · split at h0
    · rename_i h1; exact absurd h0 h1
    · rename_i h1; simpa using h1
set_option maxHeartbeats 2000000 in
theorem rbetween_run (i r c a b : Int) (l : List Rw) {n : Nat} (hn : l.length + 500 ≤ n) : pureCall (rc pg n) 87 [D.agg (sheetC i r c l), D.int a, D.int b] = some (.ret (.tup [spD (rbtwF i r c l a b).1, D.int (rbtwF i r c l a b).2])) := by
  obtain ⟨m, rfl, e⟩ := body (pg := pg) (f := 87) (args := [D.agg (sheetC i r c l), D.int a, D.int b]) (show 0 < n by omega) rfl rfl
  rw [e]
  have hc := fun h => call_of (h := h) (pg := pg) (f := 45) rfl (sheet_canon i r c l) (@rcheck_run i r c l m (by omega))
  by_cases h0 : chkF i r c l = 0
  · have hl := chk_len h0
    have hv := chk_ok h0
    have hcn : ∀ mk, D.canonL [D.agg (sheetC i r c l), D.int mk] = true := fun mk => by simp [sheetC, rowsD, canonL_map rowD (fun _ => rfl) l]
    have hx := fun mk h => call_of (h := h) (pg := pg) (f := 82) rfl (hcn mk) (@rat_run i r c mk l hl m (by omega))
    simp only [at_same _ _ _ hv] at hx
    simp only [sheetC, rowsD] at hc hx
    rcases at_ge c a l with h1 | ⟨p, h1, h1l⟩
    · simp [k87, Env.v_ini, sheetC, rowsD, D.cells, D.one, hc, h0, hx, h1, rbtwF, endsF, spD, spC]
    · rcases at_ge c b l with h2 | ⟨q, h2, h2l⟩
      · have h1n : ¬ ((p : Int) = -1) := by omega
        have h1n' : ¬ ((p : Int) < 0) := by omega
        simp [k87, Env.v_ini, sheetC, rowsD, D.cells, D.one, hc, h0, hx, h1, h1n, h1n', h2, rbtwF, endsF, spD, spC]
      · have h1n : ¬ ((p : Int) = -1) := by omega
        have h1n' : ¬ ((p : Int) < 0) := by omega
        have h2n : ¬ ((q : Int) = -1) := by omega
        have h2n' : ¬ ((q : Int) < 0) := by omega
        have hy := fun h => call_of (h := h) (pg := pg) (f := 77) rfl (rows_canon (midF l p q)) (@years_run (midF l p q) m (by unfold midF; simp; omega))
        rw [years_mid (chk_nats h0)] at hy
        have hmap : (midF l p q).map rowD = ((l.map rowD).drop (min p q)).take (max p q - min p q) := by unfold midF; rw [List.map_take, List.map_drop]
        simp only [rowsD, hmap] at hy
        have hlo := loSum_bound _ (okAll_mid hv p q)
        have hhi := hiSum_bound _ (okAll_mid hv p q)
        have hml : (midF l p q).length ≤ 400 := by unfold midF; simp; omega
        have hw1 : IntKind.i64.wrap (- loSum (midF l p q)) = - loSum (midF l p q) := wrap_i64 (by omega) (by omega)
        have hw2 : IntKind.i64.wrap (- hiSum (midF l p q)) = - hiSum (midF l p q) := wrap_i64 (by omega) (by omega)
        have hmin : min (p : Int) (q : Int) = ((min p q : Nat) : Int) := by omega
        have hmax : max (p : Int) (q : Int) = ((max p q : Nat) : Int) := by omega
        have hle : min p q ≤ max p q := by omega
        have hle2 : max p q ≤ l.length := by omega
        have hhead := rows_head l
        by_cases h3 : q < p
        · simp [k87, Env.v_ini, sheetC, rowsD, D.cells, D.one, hc, h0, hx, h1, h1n, h1n', h2, h2n, h2n', hmin, hmax, hle, hle2, hhead, hy, h3, hw1, hw2, rbtwF, endsF, spD, spC]
        · simp [k87, Env.v_ini, sheetC, rowsD, D.cells, D.one, hc, h0, hx, h1, h1n, h1n', h2, h2n, h2n', hmin, hmax, hle, hle2, hhead, hy, h3, rbtwF, endsF, spD, spC]
  · have h0' : (chkF i r c l != 0) = true := by simpa using h0
    simp only [sheetC, rowsD] at hc
    simp [k87, Env.v_ini, sheetC, rowsD, D.cells, D.one, hc, h0, h0', rbtwF, endsF, spD, spC]
end Go.Proofs.YtomiigdpggeacaaDoor
/- The spans of a sheet, by the document; whether two lists of spans are the same. -/
namespace Go.Proofs.YtomiigdpggeacaaDoor
open Go Go.Em
set_option maxRecDepth 100000
/-- Something of each two neighbours. -/
def pairF (f : Int → Int → Sp) (l : List Int) : List Sp := (l.zip l.tail).map fun p => f p.1 p.2
theorem pairF_len (f : Int → Int → Sp) (l : List Int) : (pairF f l).length = l.length - 1 := by simp [pairF]
theorem pairF_get (f : Int → Int → Sp) (l : List Int) (i : Nat) (h : i < (pairF f l).length) (h1 : i < l.length) (h2 : i + 1 < l.length) : (pairF f l)[i] = f l[i] l[i + 1] := by
  simp [pairF]
def bF (i r c : Int) (l : List Rw) (a b : Int) : Sp := (rbtwF i r c l a b).1
def RSI (i r c : Int) (l : List Rw) (mk : List Int) (k : Nat) (s : St) : Prop := ∃ (x : Env 36) (h : Heap) (j : Nat) (d : D), s = ⟨x.l, h, []⟩ ∧ j + k = (pairF (bF i r c l) mk).length ∧ h.get 1 = some (.cells 25 (sheetC i r c l)) ∧ x.v 1 = .ptr 1 0 ∧ x.v 3 = intsD mk ∧ x.v 5 = D.int j ∧ x.v 4 = d ∧ Gs h d ((pairF (bF i r c l) mk).take j) ∧ h.Fr ∧ 1 < h.next
/-- The document's spans of a sheet. -/
def rSpans (i r c : Int) (l : List Rw) : List Sp := pairF (bF i r c l) (shMarks i r c l)
def SSI (l : List Sp) (k : Nat) (s : St) : Prop := ∃ (x : Env 31) (h : Heap) (i : Nat), s = ⟨x.l, h, []⟩ ∧ i + k = l.length ∧ x.v 0 = spsD l ∧ x.v 1 = spsD l ∧ x.v 5 = D.bool true ∧ x.v 6 = D.int i
theorem sameS_round (l : List Sp) (hl : l.length ≤ 1000000) : ∀ n, 0 ≤ n → ∀ k s, SSI l k s → Res (k28l0.ev ⟨pg, 31, none⟩ (rc pg n) s) (Rnd (SSI l) (fun x s => x = .exit 0 ∧ SSI l 0 s) k) := by
  rintro n hn k s ⟨x, h, i, rfl, hik, v0, v1, v5, v6⟩
  simp only [spsD] at v0 v1
  by_cases hlt : i < l.length
  · obtain ⟨r, hr⟩ : ∃ r, l[i] = r := ⟨l[i], rfl⟩
    have hw1 : IntKind.i64.wrap ((i : Int) + 1) = (i : Int) + 1 := wrap_i64 (by omega) (by omega)
    simp [k28l0, v0, v1, v5, v6, hlt, hr, spD, spC, D.cells, hw1]
    exact ⟨k - 1, by omega, _, _, i + 1, rfl, by omega, by simp [v0, spsD], by simp [v1, spsD], by simp, by simp⟩
  · simp [k28l0, v0, v6, hlt]
    exact ⟨_, _, i, rfl, by omega, by simp [v0, spsD], by simp [v1, spsD], by simp [v5], by simp [v6]⟩
theorem sameS_run (l : List Sp) (hl : l.length ≤ 1000000) {n : Nat} (hn : l.length + 5 ≤ n) : pureCall (rc pg n) 28 [spsD l, spsD l] = some (.ret (D.bool true)) := by
  obtain ⟨m, rfl, e⟩ := body (pg := pg) (f := 28) (args := [spsD l, spsD l]) (show 0 < n by omega) rfl rfl
  rw [e]
  simp [k28, Env.v_ini, spsD, ev_loop]
  refine Res.endsAfter (lp_rule 0 (SSI l) _ (sameS_round l hl) l.length m _ (by omega) ⟨_, _, 0, rfl, by omega, by simp [Env.v_ini, spsD], by simp [Env.v_ini, spsD], by simp, by simp⟩) ?_
  rintro x s ⟨rfl, x, h, i, rfl, hi, v0, v1, v5, v6⟩
  simp [v5]
end Go.Proofs.YtomiigdpggeacaaDoor
/- The program's spans are the document's. -/
namespace Go.Proofs.YtomiigdpggeacaaDoor
open Go Go.Em
set_option maxRecDepth 100000
theorem mark_ge {c : Int} (hc : 0 ≤ c ∧ c ≤ 31) {r : Rw} (hv : (natF r).valid = true) (hk : r.k = 1) : markF c r.n = 64 * c + r.n + 1 ∧ 0 ≤ r.n ∧ r.n ≤ 63 := by
  have : 0 ≤ r.n ∧ r.n ≤ 63 := by simp [natF, hk, inB] at hv; omega
  exact ⟨by unfold markF; rw [if_pos ⟨hc, this⟩], this⟩
theorem mark_zero {r : Rw} (hk : r.k = 1) : (natF r).lo = 0 ∧ (natF r).hi = 0 := by simp [natF, hk]
theorem loSum_cons (r : Rw) (l : List Rw) : loSum (r :: l) = (natF r).lo + loSum l := by simp [loSum]
theorem hiSum_cons (r : Rw) (l : List Rw) : hiSum (r :: l) = (natF r).hi + hiSum l := by simp [hiSum]
theorem sLo_cons (a b : Int) (p : Sp) (l : List Sp) : sLo a b (p :: l) = (if inS a b p = true then p.lo else 0) + sLo a b l := by
  unfold sLo; rw [List.filter_cons]; split <;> simp
theorem sHi_cons (a b : Int) (p : Sp) (l : List Sp) : sHi a b (p :: l) = (if inS a b p = true then p.hi else 0) + sHi a b l := by
  unfold sHi; rw [List.filter_cons]; split <;> simp
/-- What comes behind a mark is greater. -/
theorem ord_gt (c : Int) : ∀ (l : List Rw) (A : Int), ordF c A l = true → ∀ p (h : p < l.length), l[p].k = 1 → A < markF c l[p].n
  | r :: l, A, ho, p, h, hk => by
    unfold ordF at ho
    split at ho
    · split at ho
      · cases ho
      · rename_i h1 h2
        cases p with
        | zero => simp only [List.getElem_cons_zero]; omega
        | succ p =>
          simp only [List.getElem_cons_succ] at hk ⊢
          have := ord_gt c l _ ho p (by simpa using h) hk
          omega
    · rename_i h1
      cases p with
      | zero => exact absurd hk h1
      | succ p =>
        simp only [List.getElem_cons_succ] at hk ⊢
        exact ord_gt c l _ ho p (by simpa using h) hk
theorem sum_after (c a b : Int) : ∀ (l : List Rw) (A x y : Int), ordF c A l = true → b ≤ A → sLo a b (spF c A x y l) = 0 ∧ sHi a b (spF c A x y l) = 0
  | [], _, _, _, _, _ => ⟨rfl, rfl⟩
  | r :: l, A, x, y, ho, hb => by
    unfold ordF at ho
    unfold spF
    split at ho
    · rename_i h1
      rw [if_pos h1]
      split at ho
      · cases ho
      · rename_i h2
        have ih := sum_after c a b l (markF c r.n) 0 0 ho (by omega)
        split
        · exact ih
        · have hn : inS a b ⟨A, markF c r.n, x, y⟩ = false := by simp [inS]; omega
          rw [sLo_cons, sHi_cons, hn]
          simp [ih]
    · rename_i h1
      rw [if_neg h1]
      exact sum_after c a b l A _ _ ho hb
theorem sum_in (c : Int) (hc : 0 ≤ c ∧ c ≤ 31) (a b : Int) : ∀ (l : List Rw) (A x y : Int) (q : Nat) (hq : q < l.length), okAll l = true → ordF c A l = true → a ≤ A → A ≠ -1 → l[q].k = 1 → markF c l[q].n = b →
    sLo a b (spF c A x y l) = x + loSum (l.take q) ∧ sHi a b (spF c A x y l) = y + hiSum (l.take q)
  | r :: l, A, x, y, q, hq, hv, ho, ha, hA, hk, hm => by
    simp only [okAll, List.all_cons, Bool.and_eq_true] at hv
    unfold ordF at ho
    unfold spF
    split at ho
    · rename_i h1
      have hz := mark_zero h1
      have hg := mark_ge hc hv.1 h1
      rw [if_pos h1, if_neg hA]
      split at ho
      · cases ho
      · rename_i h2
        cases q with
        | zero =>
          simp only [List.getElem_cons_zero] at hm
          have ih := sum_after c a b l (markF c r.n) 0 0 ho (by omega)
          have hn : inS a b ⟨A, markF c r.n, x, y⟩ = true := by simp [inS]; omega
          rw [sLo_cons, sHi_cons, if_pos hn, if_pos hn]
          simp [ih, loSum, hiSum]
        | succ q =>
          simp only [List.getElem_cons_succ] at hk hm
          have hq' : q < l.length := by simpa using hq
          have hlt := ord_gt c l _ ho q hq' hk
          have ih := sum_in c hc a b l (markF c r.n) 0 0 q hq' hv.2 ho (by omega) (by omega) hk hm
          have hn : inS a b ⟨A, markF c r.n, x, y⟩ = true := by simp [inS]; omega
          rw [sLo_cons, sHi_cons, if_pos hn, if_pos hn, ih.1, ih.2, List.take_succ_cons, loSum_cons, hiSum_cons, hz.1, hz.2]
          exact ⟨rfl, rfl⟩
    · rename_i h1
      rw [if_neg h1]
      cases q with
      | zero => exact absurd hk h1
      | succ q =>
        simp only [List.getElem_cons_succ] at hk hm
        have ih := sum_in c hc a b l A (x + (natF r).lo) (y + (natF r).hi) q (by simpa using hq) hv.2 ho ha hA hk hm
        rw [ih.1, ih.2, List.take_succ_cons, loSum_cons, hiSum_cons]
        exact ⟨by omega, by omega⟩
theorem sum_from (c : Int) (hc : 0 ≤ c ∧ c ≤ 31) (a b : Int) : ∀ (l : List Rw) (A x y : Int) (p q : Nat) (hp : p < l.length) (hq : q < l.length), p ≤ q → okAll l = true → ordF c A l = true → A < a → l[p].k = 1 → markF c l[p].n = a → l[q].k = 1 → markF c l[q].n = b →
    sLo a b (spF c A x y l) = loSum ((l.drop p).take (q - p)) ∧ sHi a b (spF c A x y l) = hiSum ((l.drop p).take (q - p))
  | r :: l, A, x, y, p, q, hp, hq, hpq, hv, ho, hA, hk, hm, hk', hm' => by
    simp only [okAll, List.all_cons, Bool.and_eq_true] at hv
    unfold ordF at ho
    unfold spF
    split at ho
    · rename_i h1
      have hz := mark_zero h1
      have hg := mark_ge hc hv.1 h1
      rw [if_pos h1]
      split at ho
      · cases ho
      · rename_i h2
        have hn : inS a b ⟨A, markF c r.n, x, y⟩ = false := by simp [inS]; omega
        have drp : ∀ g, sLo a b (if A = -1 then g else ⟨A, markF c r.n, x, y⟩ :: g) = sLo a b g ∧ sHi a b (if A = -1 then g else ⟨A, markF c r.n, x, y⟩ :: g) = sHi a b g := fun g => by
          split
          · exact ⟨rfl, rfl⟩
          · rw [sLo_cons, sHi_cons, hn]; simp
        rw [(drp _).1, (drp _).2]
        cases p with
        | zero =>
          simp only [List.getElem_cons_zero] at hm
          cases q with
          | zero =>
            simp only [List.getElem_cons_zero] at hm'
            have ih := sum_after c a b l (markF c r.n) 0 0 ho (by omega)
            simp [ih, loSum, hiSum]
          | succ q =>
            simp only [List.getElem_cons_succ] at hk' hm'
            have ih := sum_in c hc a b l (markF c r.n) 0 0 q (by simpa using hq) hv.2 ho (by omega) (by omega) hk' hm'
            simp only [List.drop_zero, Nat.sub_zero]
            rw [ih.1, ih.2, List.take_succ_cons, loSum_cons, hiSum_cons, hz.1, hz.2]
            exact ⟨rfl, rfl⟩
        | succ p =>
          cases q with
          | zero => omega
          | succ q =>
            simp only [List.getElem_cons_succ] at hk hm hk' hm'
            have hlt := ord_gt c l _ ho p (by simpa using hp) hk
            have ih := sum_from c hc a b l (markF c r.n) 0 0 p q (by simpa using hp) (by simpa using hq) (by omega) hv.2 ho (by omega) hk hm hk' hm'
            rw [ih.1, ih.2, List.drop_succ_cons, show q + 1 - (p + 1) = q - p by omega]
            exact ⟨rfl, rfl⟩
    · rename_i h1
      rw [if_neg h1]
      cases p with
      | zero => exact absurd hk h1
      | succ p =>
        cases q with
        | zero => omega
        | succ q =>
          simp only [List.getElem_cons_succ] at hk hm hk' hm'
          have ih := sum_from c hc a b l A (x + (natF r).lo) (y + (natF r).hi) p q (by simpa using hp) (by simpa using hq) (by omega) hv.2 ho hA hk hm hk' hm'
          rw [ih.1, ih.2, List.drop_succ_cons, show q + 1 - (p + 1) = q - p by omega]
          exact ⟨rfl, rfl⟩
/-- Marks rise. -/
theorem ord_two (c : Int) : ∀ (l : List Rw) (A : Int), ordF c A l = true → ∀ p q (hp : p < l.length) (hq : q < l.length), p < q → l[p].k = 1 → l[q].k = 1 → markF c l[p].n < markF c l[q].n
  | r :: l, A, ho, p, q, hp, hq, hpq, hk, hk' => by
    unfold ordF at ho
    cases q with
    | zero => omega
    | succ q =>
      simp only [List.getElem_cons_succ] at hk' ⊢
      cases p with
      | zero =>
        simp only [List.getElem_cons_zero] at hk ⊢
        rw [if_pos hk] at ho
        split at ho
        · cases ho
        · exact ord_gt c l _ ho q (by simpa using hq) hk'
      | succ p =>
        simp only [List.getElem_cons_succ] at hk ⊢
        split at ho
        · split at ho
          · cases ho
          · exact ord_two c l _ ho p q (by simpa using hp) (by simpa using hq) (by omega) hk hk'
        · exact ord_two c l _ ho p q (by simpa using hp) (by simpa using hq) (by omega) hk hk'
theorem ix_at (P : Rw → Bool) : ∀ (l : List Rw) (i j : Nat), ixF P i l = (j : Int) → ∃ (h : j - i < l.length), i ≤ j ∧ P l[j - i] = true
  | [], i, j, h => by simp [ixF] at h <;> omega
  | r :: l, i, j, h => by
    unfold ixF at h
    split at h
    · rename_i h1
      have : i = j := by omega
      subst this
      exact ⟨by simp, by omega, by simpa using h1⟩
    · obtain ⟨h1, h2, h3⟩ := ix_at P l (i + 1) j h
      have e : j - i = (j - (i + 1)) + 1 := by omega
      exact ⟨by simp; omega, by omega, by simp only [e, List.getElem_cons_succ]; exact h3⟩
theorem ix_here (P : Rw → Bool) : ∀ (l : List Rw) (i p : Nat) (hp : p < l.length), P l[p] = true → (∀ q (h : q < l.length), q < p → P l[q] = false) → ixF P i l = ((i + p : Nat) : Int)
  | r :: l, i, p, hp, h, hq => by
    unfold ixF
    cases p with
    | zero => simp only [List.getElem_cons_zero] at h; rw [if_pos h]; rfl
    | succ p =>
      have h0 := hq 0 (by simp) (by omega)
      simp only [List.getElem_cons_zero] at h0
      rw [h0]
      simp only [Bool.false_eq_true, if_false]
      simp only [List.getElem_cons_succ] at h
      rw [ix_here P l (i + 1) p (by simpa using hp) h fun q h1 h2 => by
        have := hq (q + 1) (by simpa using h1) (by omega)
        simpa using this]
      omega
theorem chk_core {i r c : Int} {l : List Rw} (h0 : chkF i r c l = 0) : (0 ≤ c ∧ c ≤ 31) ∧ ordF c (-1) l = true := by
  unfold chkF at h0
  split at h0
  · omega
  · rename_i h3
    split at h0
    · rename_i h1; exact absurd h0 h1
    · split at h0
      · rename_i h4
        refine ⟨?_, h4⟩
        simp [inB] at h3
        omega
      · omega
/-- A mark that a sheet has stands in one of its rows. -/
theorem at_row {c : Int} (hc : 0 ≤ c ∧ c ≤ 31) {mk : Int} {l : List Rw} {p : Nat} (h : atF c mk l = (p : Int)) : ∃ (hp : p < l.length), l[p].k = 1 ∧ markF c l[p].n = mk := by
  unfold atF at h
  split at h
  · rename_i h1
    obtain ⟨h2, _, h3⟩ := ix_at _ _ _ _ h
    simp only [Nat.sub_zero] at h2 h3
    simp [eqR] at h3
    refine ⟨h2, h3.1.symm, ?_⟩
    rcases mark_place mk with ⟨_, h5⟩ | ⟨_, h5⟩
    · rw [h5] at h1; simp at h1; omega
    · rw [h1, h3.2.1] at h5; exact h5
  · omega
theorem row_at {c : Int} (hc : 0 ≤ c ∧ c ≤ 31) {l : List Rw} (hv : okAll l = true) (ho : ordF c (-1) l = true) {p : Nat} (hp : p < l.length) (hk : l[p].k = 1) : atF c (markF c l[p].n) l = (p : Int) := by
  have hvp : (natF l[p]).valid = true := List.all_eq_true.1 hv _ (List.getElem_mem hp)
  have hg := mark_ge hc hvp hk
  have hm : l[p].m = 0 := by simp [natF, hk] at hvp; exact hvp.2
  have hpl : placeF (markF c l[p].n) = (c, l[p].n) := by
    rcases place_mark c l[p].n with h | ⟨_, h⟩
    · omega
    · exact h
  unfold atF
  rw [hpl, if_pos rfl]
  have := ix_here (eqR ⟨1, l[p].n, 0⟩) l 0 p hp (by simp [eqR, hk, hm]) fun q h1 h2 => by
    simp only [eqR]
    by_cases hkq : l[q].k = 1
    · have := ord_two c l (-1) ho q p h1 hp h2 hkq hk
      have hne : l[p].n ≠ l[q].n := fun e => by rw [e] at this; omega
      have : (l[p].n == l[q].n) = false := by simpa using hne
      simp [this]
    · have : ((1 : Int) == l[q].k) = false := by simp; exact fun h => hkq h.symm
      simp [this]
  simpa using this
/-- The span between two marks is the document's. -/
theorem btw_same (i r c a b : Int) (l : List Rw) : btwF i r c l a b = rbtwF i r c l a b := by
  unfold btwF rbtwF
  by_cases h0 : endsF i r c l a b = 0
  · have hE : ¬ endsF i r c l a b ≠ 0 := by simpa using h0
    rw [if_neg hE, if_neg hE]
    unfold endsF at h0
    split at h0
    · rename_i h1; exact absurd h0 h1
    · rename_i hchk
      have hchk : chkF i r c l = 0 := by simpa using hchk
      split at h0
      · omega
      · rename_i hne
        have hne : ¬ atF c a l = -1 ∧ ¬ atF c b l = -1 := by simpa using hne
        obtain ⟨hc, ho⟩ := chk_core hchk
        have hv := chk_ok hchk
        rcases at_ge c a l with h1 | ⟨p, h1, h1l⟩
        · exact absurd h1 hne.1
        rcases at_ge c b l with h2 | ⟨q, h2, h2l⟩
        · exact absurd h2 hne.2
        obtain ⟨hp, hk, hm⟩ := at_row hc h1
        obtain ⟨hq, hk', hm'⟩ := at_row hc h2
        have hA := ord_gt c l (-1) ho p hp hk
        have hB := ord_gt c l (-1) ho q hq hk'
        have es : shSpans i r c l = spF c (-1) 0 0 l := by unfold shSpans; rw [if_pos hchk]
        rw [h1, h2, es]
        simp only [Int.toNat_natCast]
        by_cases h3 : q < p
        · have := ord_two c l (-1) ho q p hq hp h3 hk' hk
          rw [if_pos (by omega), if_pos (by omega)]
          have hs := sum_from c hc b a l (-1) 0 0 q p hq hp (by omega) hv ho (by omega) hk' hm' hk hm
          rw [hs.1, hs.2]
          unfold midF
          rw [show min p q = q by omega, show max p q = p by omega]
        · have hba : ¬ b < a := by
            by_cases h4 : p = q
            · subst h4; omega
            · have := ord_two c l (-1) ho p q hp hq (by omega) hk hk'
              omega
          rw [if_neg hba, if_neg (by omega)]
          have hs := sum_from c hc a b l (-1) 0 0 p q hp hq (by omega) hv ho (by omega) hk hm hk' hm'
          rw [hs.1, hs.2]
          unfold midF
          rw [show min p q = p by omega, show max p q = q by omega]
  · rw [if_pos h0, if_pos h0]
end Go.Proofs.YtomiigdpggeacaaDoor
/- Whatever rows, sheet and two marks it is called with, the code of SheetSpans returns true. -/
namespace Go.Proofs.YtomiigdpggeacaaDoor
open Go Go.Em
set_option maxRecDepth 100000
theorem marksF_cons (c : Int) (r : Rw) (l : List Rw) : marksF c (r :: l) = if r.k = 1 then markF c r.n :: marksF c l else marksF c l := by
  unfold marksF
  by_cases h : r.k = 1 <;> simp [h]
theorem pairF_cons (f : Int → Int → Sp) (a b : Int) (l : List Int) : pairF f (a :: b :: l) = f a b :: pairF f (b :: l) := rfl
theorem take_more {α : Type} (l : List α) (p q : Nat) (hq : q < l.length) (hpq : p ≤ q) : (l.drop p).take (q + 1 - p) = (l.drop p).take (q - p) ++ [l[q]] := by
  rw [show q + 1 - p = (q - p) + 1 by omega, List.take_add_one]
  have : (l.drop p)[q - p]? = some l[q] := by rw [List.getElem?_drop, show p + (q - p) = q by omega, List.getElem?_eq_getElem hq]
  rw [this]; rfl
/-- The spans from some row on, the mark above them known. -/
theorem spans_pairs {i r c : Int} {l0 : List Rw} (h0 : chkF i r c l0 = 0) : ∀ (l : List Rw) (q : Nat) (A x y : Int), l0.drop q = l → q ≤ l0.length →
    (A = -1 ∨ ∃ p, ∃ hp : p < l0.length, p < q ∧ l0[p].k = 1 ∧ markF c l0[p].n = A ∧ x = loSum ((l0.drop p).take (q - p)) ∧ y = hiSum ((l0.drop p).take (q - p))) →
    spF c A x y l = if A = -1 then pairF (bF i r c l0) (marksF c l) else pairF (bF i r c l0) (A :: marksF c l)
  | [], q, A, x, y, _, _, _ => by simp [spF, marksF, pairF]
  | w :: l, q, A, x, y, hd, hq, hA => by
    obtain ⟨hc, ho⟩ := chk_core h0
    have hv := chk_ok h0
    have hq' : q < l0.length := by
      apply Decidable.byContradiction; intro hn
      rw [List.drop_eq_nil_of_le (by omega)] at hd; cases hd
    have hw : l0[q] = w ∧ l0.drop (q + 1) = l := by
      rw [List.drop_eq_getElem_cons hq'] at hd
      exact ⟨(List.cons.inj hd).1, (List.cons.inj hd).2⟩
    rw [marksF_cons]
    unfold spF
    by_cases hk : w.k = 1
    · rw [if_pos hk, if_pos hk]
      have hkq : l0[q].k = 1 := by rw [hw.1]; exact hk
      have hg := mark_ge hc (List.all_eq_true.1 hv _ (List.getElem_mem hq')) hkq
      have hm1 : markF c w.n ≠ -1 := by rw [← hw.1]; omega
      have hz := mark_zero hk
      have ih := spans_pairs (i := i) (r := r) h0 l (q + 1) (markF c w.n) 0 0 hw.2 (by omega) (.inr ⟨q, hq', by omega, hkq, by rw [hw.1], by
        rw [take_more _ _ _ hq' (by omega), hw.1, loSum_snoc, hz.1]; simp [loSum], by
        rw [take_more _ _ _ hq' (by omega), hw.1, hiSum_snoc, hz.2]; simp [hiSum]⟩)
      rw [if_neg hm1] at ih
      by_cases hA1 : A = -1
      · rw [if_pos hA1, if_pos hA1, ih]
      · rw [if_neg hA1, if_neg hA1, ih, pairF_cons]
        rcases hA with hA | ⟨p, hp, hpq, hkp, hmp, hx, hy⟩
        · exact absurd hA hA1
        congr 1
        have ap := row_at hc hv ho hp hkp
        have aq := row_at hc hv ho hq' hkq
        rw [hmp] at ap
        rw [hw.1] at aq
        unfold bF rbtwF
        have hE : ¬ endsF i r c l0 A (markF c w.n) ≠ 0 := by
          unfold endsF
          rw [if_neg (by simpa using h0), ap, aq, if_neg (by omega)]
          decide
        rw [if_neg hE, ap, aq, if_neg (by omega)]
        simp only [Int.toNat_natCast]
        unfold midF
        rw [show min p q = p by omega, show max p q = q by omega, ← hx, ← hy]
    · rw [if_neg hk, if_neg hk]
      refine spans_pairs h0 l (q + 1) A _ _ hw.2 (by omega) ?_
      rcases hA with hA | ⟨p, hp, hpq, hkp, hmp, hx, hy⟩
      · exact .inl hA
      · refine .inr ⟨p, hp, by omega, hkp, hmp, ?_, ?_⟩
        · rw [take_more _ _ _ hq' (by omega), hw.1, loSum_snoc, hx]
        · rw [take_more _ _ _ hq' (by omega), hw.1, hiSum_snoc, hy]
theorem spans_same (i r c : Int) (l : List Rw) : rSpans i r c l = shSpans i r c l := by
  unfold rSpans shSpans shMarks
  by_cases h0 : chkF i r c l = 0
  · rw [if_pos h0, if_pos h0, spans_pairs h0 l 0 (-1) 0 0 rfl (by omega) (.inl rfl), if_pos rfl]
  · rw [if_neg h0, if_neg h0]; rfl
end Go.Proofs.YtomiigdpggeacaaDoor
