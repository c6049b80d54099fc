/- Copies of rows; the rows between two marks, by the program. -/
import Derived.Test.YtomiigdpggeacaaDoorTogether
namespace Go.Proofs.YtomiigdpggeacaaDoor
open Go Go.Em
set_option maxRecDepth 100000
def rowC (r : Rw) : List D := [D.int r.k, D.int r.n, D.int r.m]
theorem rowC_len (r : Rw) : (rowC r).length = 3 := rfl
theorem rowC_canon (r : Rw) : D.canonL (rowC r) = true := rfl
theorem rows_cells : ∀ l : List Rw, (l.map rowD).flatMap D.cells = l.flatMap rowC
  | [] => rfl
  | r :: l => by rw [List.map_cons, List.flatMap_cons, List.flatMap_cons, rows_cells l]; rfl
theorem rows_one (l : List Rw) : (l.flatMap rowC).all D.one = true := by
  rw [List.all_eq_true]
  intro d hd
  obtain ⟨r, _, h⟩ := List.mem_flatMap.1 hd
  simp [rowC] at h
  rcases h with rfl | rfl | rfl <;> rfl
theorem rows_nil {l : List Rw} (h : l ≠ []) : nilOf .slice (D.sl false (l.map rowD)) = some false := by
  cases l with
  | nil => exact absurd rfl h
  | cons r l => rfl
theorem appS_zero {t et sz bytes : Nat} {h : Heap} {m : Nat} {news cs : List D} {k : Nat} {ty : TypeId} (h0 : 0 < m) (hr : m * bytes ≤ room) (hm : m ≤ maxLen) :
    appS t et sz bytes h m news k 0 0 sz (some 0) (some (.cells ty cs)) = (h.alloc t (.cells et news)).map fun h => (.slr t 0 m sz none, h) := by
  unfold appS
  simp [hr, hm, show ¬ m = 0 by omega]
theorem clone_run (l : List Rw) (hl : l.length ≤ 400) (hne : l ≠ []) {n : Nat} (hn : 1 ≤ n) : pureCall (rc pg n) 52 [rowsD l] = some (.ret (rowsD l)) := by
  obtain ⟨m, rfl, e⟩ := body (pg := pg) (f := 52) (args := [rowsD l]) (show 0 < n by omega) rfl rfl
  rw [e]
  have h1 := rows_nil hne
  have hn0 : nilOf .slice (.val (.slice none 0 0)) = some true := rfl
  have h2 := rows_cells l
  have h3 := rows_one l
  have hlen : l.length ≠ 0 := fun h => hne (List.eq_nil_of_length_eq_zero h)
  have z := fun t hh news k ty cs => appS_zero (t := t) (et := 71) (sz := 3) (bytes := 24) (h := hh) (m := l.length) (news := news) (k := k) (ty := ty) (cs := cs) (by omega) (by unfold room; omega) (by unfold maxLen; omega)
  have hl3 : (l.flatMap rowC).length = l.length * 3 := length_flatMap _ rowC_len l
  have hcan : D.canonL (l.flatMap rowC) = true := canonL_flatMap _ rowC_canon l
  have hch : chunk 3 l.length (l.flatMap rowC) = l.map rowD := chunk_flatMap _ (by decide) rowC_len l _ rfl
  have htk : (l.flatMap rowC).take (l.length * 3) = l.flatMap rowC := List.take_of_length_le (by omega)
  have hall : (l.map rowD).all (fun e => e.cells.length == 3) = true := by simp [rowD, D.cells]
  have hcan' := fun h => each_canon h 22 _ hcan
  simp [-nilOf, k52, Env.v_ini, rowsD, h1, hn0, hall, h2, h3, hlen, zerosD, apK_some, z, htk, hch, hl3, hcan']
theorem clone_n (m : Nat) : pureCall (rc pg (m + 1)) 52 [.sl false []] = none := by kernel_rfl
theorem clone_nil (m : Nat) : pureCall (rc pg (m + 1)) 52 [.val (.slice none 0 0)] = some (.ret (.sl false [])) := by kernel_rfl
theorem clone_e (m : Nat) : pureCall (rc pg (m + 1)) 52 [.sle] = some (.ret (.sl false [])) := by kernel_rfl
/-- A copy of rows, whether or not there are any. -/
theorem clone_o (l : List Rw) (hl : l.length ≤ 400) {n : Nat} (hn : 1 ≤ n) : orS (pureCall (rc pg n) 52 [rowsD l]) (splitNil (rc pg n) 52 [rowsD l]) = some (.ret (rowsD l)) := by
  by_cases h : l = []
  · subst h
    obtain ⟨m, rfl⟩ := more_of hn
    show orS (pureCall (rc pg (m + 1)) 52 [.sl false []]) (splitNil (rc pg (m + 1)) 52 [.sl false []]) = _
    rw [clone_n]
    unfold orS splitNil
    rw [clone_nil, clone_e]
    rfl
  · rw [clone_run l hl h hn, orS_some]
/-- The error of a sheet, and of two marks that must have an inside. -/
def insF (i r c : Int) (l : List Rw) (a b : Int) : Int := if endsF i r c l a b ≠ 0 then endsF i r c l a b else if b ≤ a then 15 else 0
theorem sh_canon2 (i r c a b : Int) (l : List Rw) : D.canonL [D.agg (sheetC i r c l), D.int a, D.int b] = true := by simp [sheetC, rowsD, canonL_map rowD (fun _ => rfl) l]
theorem ins_run (i r c a b : Int) (l : List Rw) {n : Nat} (hn : l.length + 50 ≤ n) : pureCall (rc pg n) 51 [D.agg (sheetC i r c l), D.int a, D.int b] = some (.ret (D.int (insF i r c l a b))) := by
  obtain ⟨m, rfl, e⟩ := body (pg := pg) (f := 51) (args := [D.agg (sheetC i r c l), D.int a, D.int b]) (show 0 < n by omega) rfl rfl
  rw [e]
  have he := fun h => call_of (h := h) (pg := pg) (f := 56) rfl (sh_canon2 i r c a b l) (@ends_run i r c a b l m (by omega))
  simp only [sheetC, rowsD] at he
  by_cases h0 : endsF i r c l a b = 0
  · by_cases h1 : b ≤ a
    · simp [k51, Env.v_ini, sheetC, rowsD, D.cells, D.one, he, h0, h1, insF]
    · simp [k51, Env.v_ini, sheetC, rowsD, D.cells, D.one, he, h0, h1, insF]
  · have h0' : (endsF i r c l a b != 0) = true := by simpa using h0
    simp [k51, Env.v_ini, sheetC, rowsD, D.cells, D.one, he, h0, h0', insF]
/-- The rows between two places. -/
def innF (l : List Rw) (p q : Nat) : List Rw := (l.drop (p + 1)).take (q - (p + 1))
theorem rowsb_run (i r c a b : Int) (l : List Rw) (h0 : chkF i r c l = 0) {p q : Nat} (ha : atF c a l = (p : Int)) (hb : atF c b l = (q : Int)) (hpq : p < q) (hab : ¬ b ≤ a) {n : Nat} (hn : l.length + 500 ≤ n) :
    pureCall (rc pg n) 16 [D.agg (sheetC i r c l), D.int a, D.int b] = some (.ret (.tup [rowsD (innF l p q), D.int 0])) := by
  obtain ⟨m, rfl, e⟩ := body (pg := pg) (f := 16) (args := [D.agg (sheetC i r c l), D.int a, D.int b]) (show 0 < n by omega) rfl rfl
  rw [e]
  have hl := chk_len h0
  have he := fun h => call_of (h := h) (pg := pg) (f := 51) rfl (sh_canon2 i r c a b l) (@ins_run i r c a b l m (by omega))
  have e0 : insF i r c l a b = 0 := by
    unfold insF endsF
    rw [if_neg (by rw [if_neg (by simpa using h0), ha, hb, if_neg (by omega)]; decide), if_neg hab]
  rw [e0] at he
  have r1 := @rowOf_run i r c a l hl m (by omega)
  have r2 := @rowOf_run i r c b l hl m (by omega)
  rw [ha] at r1
  rw [hb] at r2
  have hql : q < l.length := by
    rcases at_ge c b l with h | ⟨j, h1, h2⟩
    · omega
    · omega
  have hpl : (innF l p q).length ≤ 400 := by unfold innF; simp; omega
  have hc := @clone_o (innF l p q) hpl m (by omega)
  have s1 : pg.sh 53 = false := rfl
  have s2 : pg.sh 52 = false := rfl
  have hcr : D.canonL (l.map rowD) = true := canonL_map rowD (fun _ => rfl) l
  have hcp : D.canonL ((innF l p q).map rowD) = true := canonL_map rowD (fun _ => rfl) _
  have hmp : List.take (q - (p + 1)) (List.drop (p + 1) (l.map rowD)) = (innF l p q).map rowD := by unfold innF; rw [List.map_take, List.map_drop]
  have hw : IntKind.i64.wrap ((p : Int) + 1) = (p : Int) + 1 := wrap_i64 (by omega) (by omega)
  have hhead := rows_head l
  have t0 : 0 ≤ (p : Int) + 1 := by omega
  have t1 : (p : Int) + 1 ≤ (q : Int) := by omega
  have t2 : ((p : Int) + 1).toNat = p + 1 := by omega
  have t3 : q ≤ l.length := by omega
  have hcp' := fun h n => each_canon h n _ hcp
  simp only [sheetC, rowsD] at he r1 r2 hc
  simp [k16, Env.v_ini, sheetC, rowsD, D.cells, D.one, he, r1, r2, dcore_f, s1, s2, hcr, hw, hhead, t0, t1, t2, t3, hmp, hcp, hc, hcp', zerosD, List.range_succ]
end Go.Proofs.YtomiigdpggeacaaDoor
/- Sheets in which the rows between two marks are replaced: what they have. -/
namespace Go.Proofs.YtomiigdpggeacaaDoor
open Go Go.Em
set_option maxRecDepth 100000
/-- The rows of a sheet with others between two places. -/
def splF (l : List Rw) (p q : Nat) (rows : List Rw) : List Rw := l.take (p + 1) ++ (rows ++ l.drop q)
theorem spl_same (l : List Rw) {p q : Nat} (hpq : p < q) : splF l p q (innF l p q) = l := by
  unfold splF innF
  have e : l.drop q = (l.drop (p + 1)).drop (q - (p + 1)) := by rw [List.drop_drop, show p + 1 + (q - (p + 1)) = q by omega]
  rw [e, List.take_append_drop, List.take_append_drop]
theorem spl_len (l rows : List Rw) {p q : Nat} (hpq : p < q) (hq : q < l.length) : (splF l p q rows).length = p + 1 + rows.length + (l.length - q) := by
  unfold splF; simp; omega
theorem spl_up (l rows : List Rw) {p q x : Nat} (hpq : p < q) (hq : q < l.length) (hx : x ≤ p) (h : x < (splF l p q rows).length) : (splF l p q rows)[x] = l[x] := by
  apply Option.some.inj
  rw [← List.getElem?_eq_getElem, ← List.getElem?_eq_getElem]
  unfold splF
  rw [List.getElem?_append_left (by simp; omega), List.getElem?_take, if_pos (by omega)]
theorem spl_down (l rows : List Rw) {p q x : Nat} (hpq : p < q) (hx : q ≤ x) (hxl : x < l.length) (h : p + 1 + rows.length + (x - q) < (splF l p q rows).length) : (splF l p q rows)[p + 1 + rows.length + (x - q)] = l[x] := by
  apply Option.some.inj
  rw [← List.getElem?_eq_getElem, ← List.getElem?_eq_getElem]
  unfold splF
  have e1 : (l.take (p + 1)).length = p + 1 := by simp; omega
  rw [List.getElem?_append_right (by omega), List.getElem?_append_right (by omega), List.getElem?_drop]
  congr 1
  omega
theorem spl_inn (l rows : List Rw) {p q : Nat} (hpq : p < q) (hq : q < l.length) : innF (splF l p q rows) p (p + 1 + rows.length) = rows := by
  unfold innF splF
  have e1 : (l.take (p + 1)).length = p + 1 := by simp; omega
  rw [List.drop_left' e1, show p + 1 + rows.length - (p + 1) = rows.length by omega, List.take_left' rfl]
theorem spl_take (l rows : List Rw) {p q : Nat} (hpq : p < q) (hq : q < l.length) : (splF l p q rows).take (p + 1) = l.take (p + 1) := by
  unfold splF
  have e1 : (l.take (p + 1)).length = p + 1 := by simp; omega
  exact List.take_left' e1
theorem spl_drop (l rows : List Rw) {p q : Nat} (hpq : p < q) (hq : q < l.length) : (splF l p q rows).drop (p + 1 + rows.length) = l.drop q := by
  unfold splF
  have e1 : (l.take (p + 1)).length = p + 1 := by simp; omega
  rw [← List.append_assoc, List.drop_left' (by rw [List.length_append, e1])]
theorem mid_up (f : List Rw → Int) (l rows : List Rw) {p q x : Nat} (hpq : p < q) (hq : q < l.length) (hx : x ≤ p) : midS f (splF l p q rows) x p = midS f l x p := by
  have e : ∀ L : List Rw, (L.drop x).take (p - x) = ((L.take (p + 1)).drop x).take (p - x) := fun L => by
    rw [List.drop_take, List.take_take, show min (p - x) (p + 1 - x) = p - x by omega]
  unfold midS
  rw [e, e l, spl_take l rows hpq hq]
theorem mid_down (f : List Rw → Int) (l rows : List Rw) {p q t : Nat} (hpq : p < q) (hq : q < l.length) (ht : q ≤ t) : midS f (splF l p q rows) (p + 1 + rows.length) (p + 1 + rows.length + (t - q)) = midS f l q t := by
  unfold midS
  rw [spl_drop l rows hpq hq, show p + 1 + rows.length + (t - q) - (p + 1 + rows.length) = t - q by omega]
/-- Where other rows are not valid there, they are not valid, or too many, or marks do not rise. -/
theorem spl_bad {i r c : Int} {l rows : List Rw} {p q : Nat} (h0 : chkF i r c l = 0) (hr : rows.length ≤ 60) (h1 : chkF i r c (splF l p q rows) ≠ 0) :
    (yearsF rows).2.2 ≠ 0 ∨ chkF i r c (splF l p q rows) = 15 ∨ chkF i r c (splF l p q rows) = 2 := by
  have hh : ¬ (inB i 1 99999 = false ∨ inB r 1 99 = false ∨ inB c 0 31 = false) := by
    intro h; unfold chkF at h0; rw [if_pos h] at h0; omega
  have hv := chk_ok h0
  unfold chkF at h1 ⊢
  rw [if_neg hh] at h1 ⊢
  by_cases hn : (natsF (splF l p q rows)).2 = 0
  · rw [if_neg (by simpa using hn)] at h1 ⊢
    by_cases ho : ordF c (-1) (splF l p q rows) = true
    · rw [if_pos ho] at h1; exact absurd rfl h1
    · rw [if_neg ho]; exact .inr (.inl rfl)
  · rw [if_pos hn]
    by_cases ha : okAll (splF l p q rows) = true
    · right; right
      unfold natsF at hn ⊢
      split
      · rfl
      · split
        · rename_i hf; rw [ha] at hf; cases hf
        · split
          · rfl
          · rename_i a b d; rw [if_neg a, if_neg b, if_neg d] at hn; exact absurd rfl hn
    · left
      have hrv : okAll rows = false := by
        cases hrr : okAll rows with
        | false => rfl
        | true =>
          refine absurd ?_ ha
          unfold okAll at hv hrr ⊢
          rw [List.all_eq_true] at hv hrr ⊢
          intro x hx
          unfold splF at hx
          rcases List.mem_append.1 hx with h | h
          · exact hv x (List.mem_of_mem_take h)
          · rcases List.mem_append.1 h with h | h
            · exact hrr x h
            · exact hv x (List.mem_of_mem_drop h)
      have hn2 : (natsF rows).2 = 10 := by unfold natsF; rw [if_neg (by omega), if_pos hrv]
      unfold yearsF
      rw [hn2]; simp
end Go.Proofs.YtomiigdpggeacaaDoor
/- Lists of rows, one behind the other. -/
namespace Go.Proofs.YtomiigdpggeacaaDoor
open Go Go.Em
set_option maxRecDepth 100000
/-- A place for so many rows, none of them used. -/
theorem grow_sh (size : Nat) (hs : size ≤ 2000000) {h : Heap} (hf : h.Fr) {n : Nat} (hn : 1 ≤ n) :
    ∃ d h', (rc pg n).fn 83 [.val (.slice none 0 0), D.int size] h = some (.ret d, h') ∧ (((size = 0 ∧ d = .val (.slice none 0 0)) ∨ ∃ k cs, d = .slr k 0 0 3 none ∧ h'.get k = some (.cells 71 cs) ∧ cs.length = size * 3 ∧ k < h'.next) ∧ h'.Fr) := by
  obtain ⟨m, rfl, e⟩ := fn_body (pg := pg) (f := 83) (args := [.val (.slice none 0 0), D.int size]) (h := h) (show 0 < n by omega) rfl rfl
  rw [e]
  have hfr : ∀ j, h.raw (h.next + j) = none := fun j => hf _ (by omega)
  have h1 : ¬ (size : Int) < 0 := by omega
  have w0 : IntKind.i64.wrap 0 = 0 := rfl
  have w1 : IntKind.i64.wrap (size : Int) = size := wrap_i64 (by omega) (by omega)
  by_cases h0 : size = 0
  · subst h0
    simp [k83, Env.v_ini, w0]
    refine ⟨_, _, ⟨rfl, rfl⟩, .inl rfl, ?_⟩
    repeat' first | exact hf | apply Heap.Fr.bump | apply Heap.Fr.set
  · have h2 : 0 < size := by omega
    have r1 : size * 24 ≤ room := by unfold room; omega
    have r2 : size ≤ maxLen := by unfold maxLen; omega
    simp [k83, Env.v_ini, h1, w0, w1, h2, hfr, Nat.add_assoc, r1, r2, sliceR, upTo, mxOk, mxCap]
    refine ⟨_, _, ⟨rfl, rfl⟩, .inr ⟨_, rfl, zerosD [.int .i64 0, .int .i64 0, .int .i64 0] 3 size, by simp, by simp [zerosD], by simp⟩, ?_⟩
    repeat' first | exact hf | apply Heap.Fr.bump | apply Heap.Fr.set
    all_goals (simp <;> omega)
theorem appS_in {t et sz bytes : Nat} {h : Heap} {m : Nat} {news cs : List D} {k n : Nat} {ty : TypeId} (hf : (n + m) * sz ≤ cs.length) (hr : (n + m) * bytes ≤ room) (hm : n + m ≤ maxLen) :
    appS t et sz bytes h m news k 0 n sz none (some (.cells ty cs)) = some (.slr k 0 (n + m) sz none, h.set k (some (.cells ty (cs.take (n * sz) ++ news ++ cs.drop (n * sz + m * sz))))) := by
  have e : (n + m) * sz = n * sz + m * sz := Nat.add_mul ..
  unfold appS
  simp only [hr, hm, and_self, and_true, true_and, Nat.zero_add]
  rw [if_pos (by omega), if_pos (by omega)]
def rowsL (L : List (List Rw)) : D := .sl false (L.map rowsD)
def CI (L : List (List Rw)) (k : Nat) (s : St) : Prop := ∃ (x : Env 36) (h : Heap) (i : Nat), s = ⟨x.l, h, []⟩ ∧ i + k = L.length ∧ x.v 0 = rowsL L ∧ x.v 9 = rowsL L ∧ x.v 10 = D.int L.length ∧ x.v 11 = D.int i ∧ x.v 3 = D.int ((L.take i).flatten.length : Nat) ∧ h.Fr
theorem flat_le (L : List (List Rw)) (i : Nat) : (L.take i).flatten.length ≤ L.flatten.length := by
  conv => rhs; rw [← List.take_append_drop i L, List.flatten_append, List.length_append]
  omega
theorem flat_snoc (L : List (List Rw)) {i : Nat} (h : i < L.length) : (L.take (i + 1)).flatten = (L.take i).flatten ++ L[i] := by
  have : L.take (i + 1) = L.take i ++ [L[i]] := by rw [List.take_add_one, List.getElem?_eq_getElem h]; rfl
  rw [this, List.flatten_append]; simp
set_option maxHeartbeats 1000000 in
theorem cat_round (L : List (List Rw)) (hL : L.length ≤ 10) (ht : L.flatten.length ≤ 2000000) : ∀ n, 0 ≤ n → ∀ k s, CI L k s → Res (k55l0.ev ⟨pg, 36, none⟩ (rc pg n) s) (Rnd (CI L) (fun x s => x = .exit 0 ∧ CI L 0 s) k) := by
  rintro n hn k s ⟨x, h, i, rfl, hik, v0, v9, v10, v11, v3, hf⟩
  simp only [rowsL, rowsD] at v9
  have f1 := flat_le L i
  have f2 := flat_le L (i + 1)
  by_cases hlt : i < L.length
  · have f3 := flat_snoc L hlt
    obtain ⟨r, hr⟩ : ∃ r, L[i] = r := ⟨L[i], rfl⟩
    rw [hr] at f3
    have f4 : (L.take (i + 1)).flatten.length = (L.take i).flatten.length + r.length := by rw [f3, List.length_append]
    have hw1 : IntKind.i64.wrap ((i : Int) + 1) = (i : Int) + 1 := wrap_i64 (by omega) (by omega)
    have hw2 : IntKind.i64.wrap ((((L.take i).flatten.length : Nat) : Int) + r.length) = (((L.take (i + 1)).flatten.length : Nat) : Int) := by rw [f4, wrap_i64 (by omega) (by omega)]; omega
    obtain ⟨A, hA⟩ : ∃ A, A = (L.take i).flatten.length := ⟨_, rfl⟩
    obtain ⟨B, hB⟩ : ∃ B, B = (L.take (i + 1)).flatten.length := ⟨_, rfl⟩
    rw [← hA] at v3 hw2
    rw [← hB] at hw2
    have h0 : ¬ (B : Int) < 0 := by omega
    simp [k55l0, v9, v10, v11, v3, hlt, hr, rowsD, D.cells, hw1, hw2, h0]
    exact ⟨k - 1, by omega, _, _, i + 1, rfl, by omega, by simp [v0], by simp [v9, rowsL, rowsD], by simp [v10], by simp, by simp [hB], by
      repeat' first | exact hf | apply Heap.Fr.bump | apply Heap.Fr.set⟩
  · simp [k55l0, v10, v11, hlt]
    exact ⟨_, _, i, rfl, by omega, by simp [v0], by simp [v9, rowsL, rowsD], by simp [v10], by simp [v11], by simp [v3], hf.bump _⟩
def Gc (h : Heap) (d : D) (N : Nat) (rows : List Rw) : Prop := (N = 0 ∧ d = .val (.slice none 0 0)) ∨ ∃ k cs, d = .slr k 0 rows.length 3 none ∧ h.get k = some (.cells 71 cs) ∧ cs.length = N * 3 ∧ cs.take (rows.length * 3) = rows.flatMap rowC ∧ k < h.next
def CI2 (L : List (List Rw)) (k : Nat) (s : St) : Prop := ∃ (x : Env 36) (h : Heap) (i : Nat) (d : D), s = ⟨x.l, h, []⟩ ∧ i + k = L.length ∧ x.v 25 = rowsL L ∧ x.v 26 = D.int L.length ∧ x.v 27 = D.int i ∧ x.v 6 = d ∧ Gc h d L.flatten.length (L.take i).flatten ∧ h.Fr
set_option maxHeartbeats 2000000 in
theorem cat_round2 (L : List (List Rw)) (hL : L.length ≤ 10) (ht : L.flatten.length ≤ 2000000) : ∀ n, 0 ≤ n → ∀ k s, CI2 L k s → Res (k55l1.ev ⟨pg, 36, none⟩ (rc pg n) s) (Rnd (CI2 L) (fun x s => x = .exit 2 ∧ CI2 L 0 s) k) := by
  rintro n hn k s ⟨x, h, i, d, rfl, hik, v25, v26, v27, v6, hd, hf⟩
  simp only [rowsL, rowsD] at v25
  have f2 := flat_le L (i + 1)
  by_cases hlt : i < L.length
  · have f3 := flat_snoc L hlt
    obtain ⟨r, hr⟩ : ∃ r, L[i] = r := ⟨L[i], rfl⟩
    rw [hr] at f3
    obtain ⟨A, hA⟩ : ∃ A, A = (L.take i).flatten := ⟨_, rfl⟩
    rw [← hA] at f3 hd
    have f4 : (L.take (i + 1)).flatten.length = A.length + r.length := by rw [f3, List.length_append]
    have hw1 : IntKind.i64.wrap ((i : Int) + 1) = (i : Int) + 1 := wrap_i64 (by omega) (by omega)
    have hall : (r.map rowD).all (fun e => e.cells.length == 3) = true := by simp [rowD, D.cells]
    have h2 := rows_cells r
    have h3 := rows_one r
    have hl3 : (r.flatMap rowC).length = r.length * 3 := length_flatMap _ rowC_len r
    have hlA : (A.flatMap rowC).length = A.length * 3 := length_flatMap _ rowC_len A
    rcases hd with ⟨hN, rfl⟩ | ⟨k1, cs, rfl, hg, hcl, htk, hk1⟩
    · have hr0 : r = [] := List.eq_nil_of_length_eq_zero (by omega)
      subst hr0
      simp [k55l1, v25, v26, v27, v6, hlt, hr, rowsD, D.cells, hw1, apK_zero_nil]
      exact ⟨k - 1, by omega, _, _, i + 1, _, rfl, by omega, by simp [v25, rowsL, rowsD], by simp [v26], by simp, by simp, .inl ⟨hN, rfl⟩, by
        repeat' first | exact hf | apply Heap.Fr.bump | apply Heap.Fr.set⟩
    · by_cases hr0 : r = []
      · subst hr0
        simp [k55l1, v25, v26, v27, v6, hlt, hr, rowsD, D.cells, hw1, apK_zero_slr]
        rw [List.append_nil] at f3
        refine ⟨k - 1, by omega, _, _, i + 1, .slr k1 0 A.length 3 none, rfl, by omega, by simp [v25, rowsL, rowsD], by simp [v26], by simp, by simp, .inr ⟨k1, cs, by rw [f3], by simp [hg], hcl, by rw [f3]; exact htk, by simp; omega⟩, by
          repeat' first | exact hf | apply Heap.Fr.bump | apply Heap.Fr.set⟩
      · have hlen : r.length ≠ 0 := fun h => hr0 (List.eq_nil_of_length_eq_zero h)
        have happ := fun t hh => appS_in (t := t) (et := 71) (sz := 3) (bytes := 24) (h := hh) (m := r.length) (news := r.flatMap rowC) (k := k1) (n := A.length) (cs := cs) (ty := 71) (by omega) (by unfold room; omega) (by unfold maxLen; omega)
        have hce : (D.sl false (r.map rowD)).cells = [D.sl false (r.map rowD)] := rfl
        simp [k55l1, v25, v26, v27, v6, hlt, hr, rowsD, hce, hw1, hall, h2, h3, hlen, apK_some, hg, happ]
        refine ⟨k - 1, by omega, _, _, i + 1, .slr k1 0 (A.length + r.length) 3 none, rfl, by omega, by simp [v25, rowsL, rowsD], by simp [v26], by simp, by simp, .inr ⟨k1, cs.take (A.length * 3) ++ r.flatMap rowC ++ cs.drop (A.length * 3 + r.length * 3), by rw [f4], by simp, ?_, ?_, by simp; omega⟩, ?_⟩
        · rw [List.length_append, List.length_append, List.length_take, List.length_drop, hl3, hcl]; omega
        · have e3 : (cs.take (A.length * 3)).length = A.length * 3 := by rw [List.length_take]; omega
          rw [f4, f3, List.flatMap_append, ← htk, Nat.add_mul, List.take_left' (by rw [List.length_append, e3, hl3])]
        · repeat' first | exact hf | apply Heap.Fr.bump | apply Heap.Fr.set
          all_goals (simp <;> omega)
  · simp [k55l1, v26, v27, hlt]
    have hi : i = L.length := by omega
    refine ⟨_, _, i, d, rfl, by omega, by simp [v25, rowsL, rowsD], by simp [v26], by simp [v27], by simp [v6], ?_, hf.bump _⟩
    rcases hd with hd | ⟨k1, cs, h1, hg, hcl, htk, hk1⟩
    · exact .inl hd
    · exact .inr ⟨k1, cs, h1, by simpa using hg, hcl, htk, by simp; omega⟩
set_option maxHeartbeats 2000000 in
theorem concat_run (L : List (List Rw)) (hL : L.length ≤ 10) (ht : L.flatten.length ≤ 2000000) {n : Nat} (hn : 100 ≤ n) : pureCall (rc pg n) 55 [rowsL L] = some (.ret (rowsD L.flatten)) := by
  obtain ⟨m, rfl, e⟩ := body (pg := pg) (f := 55) (args := [rowsL L]) (show 0 < n by omega) rfl rfl
  rw [e]
  simp [k55, Env.v_ini, rowsL, ev_loop]
  refine Res.endsAfter (lp_rule 0 (CI L) (fun x s => x = .exit 0 ∧ CI L 0 s) (cat_round L hL ht) L.length m _ (by omega)
    ⟨_, _, 0, rfl, by omega, by simp [Env.v_ini, rowsL], by simp [rowsL], by simp, by simp, by simp, ?_⟩) ?_
  · repeat' first | exact Heap.Fr.empty | apply Heap.Fr.bump | apply Heap.Fr.set
  rintro x s ⟨rfl, x, h, j, rfl, hj, v0, v9, v10, v11, v3, hf⟩
  obtain rfl : j = L.length := by omega
  rw [List.take_length] at v3
  obtain ⟨N, hN⟩ : ∃ N, N = L.flatten.length := ⟨_, rfl⟩
  obtain ⟨d, h1, e1, hd, hf1⟩ := grow_sh N (by omega) (h := h.bump 36) (hf.bump 36) (n := m) (by omega)
  have q := call_sh (pg := pg) rfl e1
  rw [← hN] at v3
  simp only [rowsL] at v0
  simp [v3, q, v0, ev_loop]
  refine Res.endsAfter (lp_rule 0 (CI2 L) (fun x s => x = .exit 2 ∧ CI2 L 0 s) (cat_round2 L hL ht) L.length m _ (by omega)
    ⟨_, _, 0, d, rfl, by omega, by simp [rowsL], by simp, by simp, by simp, ?_, ?_⟩) ?_
  · rw [← hN]
    rcases hd with ⟨a, b⟩ | ⟨k, cs, a, b, c, g⟩
    · exact .inl ⟨a, b⟩
    · exact .inr ⟨k, cs, a, by simpa using b, c, by simp, by simp; omega⟩
  · repeat' first | exact hf1 | apply Heap.Fr.bump | apply Heap.Fr.set
  rintro x s ⟨rfl, x, h, j, d, rfl, hj, v25, v26, v27, v6, hd, hf⟩
  obtain rfl : j = L.length := by omega
  rw [List.take_length] at hd
  have hz : ∃ ks, frz (h.bump 36) 24 d = some (rowsD L.flatten, ks) := by
    rcases hd with ⟨a, rfl⟩ | ⟨k, cs, rfl, b, c, g, _⟩
    · have : L.flatten = [] := List.eq_nil_of_length_eq_zero a
      rw [this]; exact ⟨[], frz_nil⟩
    · have hcan : D.canonL (L.flatten.flatMap rowC) = true := canonL_flatMap _ rowC_canon _
      have hch : chunk 3 L.flatten.length (L.flatten.flatMap rowC) = L.flatten.map rowD := chunk_flatMap _ (by decide) rowC_len _ _ rfl
      have hea := each_canon (h.bump 36) 22 _ hcan
      have hle : L.flatten.length * 3 ≤ cs.length := by omega
      refine ⟨[k], ?_⟩
      rw [frz_slr, Heap.get_bump', b, frzS_cells, if_pos ⟨by omega, by decide⟩, List.drop_zero, g, hea, Option.map_some, hch]
      rfl
  obtain ⟨ks, hz⟩ := hz
  simp [v6, hz]
end Go.Proofs.YtomiigdpggeacaaDoor
/- Other rows between two marks, by the program. -/
namespace Go.Proofs.YtomiigdpggeacaaDoor
open Go Go.Em
set_option maxRecDepth 100000
theorem rows_canonL (l : List Rw) : D.canonL (l.map rowD) = true := canonL_map rowD (fun _ => rfl) l
theorem three_flat (a b c : List Rw) : [a, b, c].flatten = a ++ (b ++ c) := by simp
set_option maxHeartbeats 8000000 in
theorem splice_run (i r c a b : Int) (l rows : List Rw) (h0 : chkF i r c l = 0) {p q : Nat} (ha : atF c a l = (p : Int)) (hb : atF c b l = (q : Int)) (hpq : p < q) (hab : ¬ b ≤ a) (hr : rows.length ≤ 1500000) {n : Nat} (hn : l.length + rows.length + 1500 ≤ n) :
    pureCall (rc pg n) 18 [D.agg (sheetC i r c l), D.int a, D.int b, rowsD rows] = some (.ret (.tup (if chkF i r c (splF l p q rows) = 0 then [D.agg (sheetC i r c (splF l p q rows)), D.int 0] else [D.agg (sheetC 0 0 0 []), D.int (chkF i r c (splF l p q rows))]))) := by
  obtain ⟨m, rfl, e⟩ := body (pg := pg) (f := 18) (args := [D.agg (sheetC i r c l), D.int a, D.int b, rowsD rows]) (show 0 < n by omega) rfl rfl
  rw [e]
  have hl := chk_len h0
  have he := fun h => call_of (h := h) (pg := pg) (f := 51) rfl (sh_canon2 i r c a b l) (@ins_run i r c a b l m (by omega))
  have e0 : insF i r c l a b = 0 := by
    unfold insF endsF
    rw [if_neg (by rw [if_neg (by simpa using h0), ha, hb, if_neg (by omega)]; decide), if_neg hab]
  rw [e0] at he
  have r1 := @rowOf_run i r c a l hl m (by omega)
  have r2 := @rowOf_run i r c b l hl m (by omega)
  rw [ha] at r1
  rw [hb] at r2
  have hql : q < l.length := by
    rcases at_ge c b l with h | ⟨j, h1, h2⟩
    · omega
    · omega
  have hflat := three_flat (l.take (p + 1)) rows (l.drop q)
  have hlen := spl_len l rows hpq hql
  have hcat := @concat_run [l.take (p + 1), rows, l.drop q] (by simp) (by rw [hflat]; show (splF l p q rows).length ≤ _; omega) m (by omega)
  rw [hflat] at hcat
  have hS : l.take (p + 1) ++ (rows ++ l.drop q) = splF l p q rows := rfl
  rw [hS] at hcat
  obtain ⟨S, hSS⟩ : ∃ S, S = splF l p q rows := ⟨_, rfl⟩
  rw [← hSS] at hcat hlen ⊢
  have hck := fun h => call_of (h := h) (pg := pg) (f := 40) rfl (sheet_canon i r c S) (@check_run i r c S m (by omega))
  have s1 : pg.sh 53 = false := rfl
  have s2 : pg.sh 55 = false := rfl
  have hcr := rows_canonL l
  have hcp : D.canonL (rows.map rowD) = true := rows_canonL rows
  have hc1 : D.canonL ((l.map rowD).take (p + 1)) = true := by rw [← List.map_take]; exact rows_canonL _
  have hc2 : D.canonL ((l.map rowD).drop q) = true := by rw [← List.map_drop]; exact rows_canonL _
  have hw : IntKind.i64.wrap ((p : Int) + 1) = (p : Int) + 1 := wrap_i64 (by omega) (by omega)
  have hhead := rows_head l
  have t0 : 0 ≤ (p : Int) + 1 := by omega
  have t1 : (p : Int) + 1 ≤ (l.length : Int) := by omega
  have t2 : ((p : Int) + 1).toNat = p + 1 := by omega
  have t3 : q ≤ l.length := by omega
  have t4 : ((l.map rowD).drop q).take (l.length - q) = (l.map rowD).drop q := List.take_of_length_le (by simp)
  have hcS := rows_canonL S
  have hcS' := fun h n => each_canon h n _ hcS
  simp only [sheetC, rowsD, rowsL, List.map_cons, List.map_nil, List.map_take, List.map_drop] at he r1 r2 hcat hck
  by_cases hk : chkF i r c S = 0
  · simp [k18, Env.v_ini, sheetC, rowsD, D.cells, D.one, he, r1, r2, dcore_f, s1, s2, hcr, hcp, hc1, hc2, hw, hhead, t0, t1, t2, t3, t4, hcat, hck, hk, zerosD, List.range_succ, chunk, hcS']
  · have hk' : (chkF i r c S != 0) = true := by simpa using hk
    simp [k18, Env.v_ini, sheetC, rowsD, D.cells, D.one, he, r1, r2, dcore_f, s1, s2, hcr, hcp, hc1, hc2, hw, hhead, t0, t1, t2, t3, t4, hcat, hck, hk, hk', zerosD, List.range_succ, chunk]
end Go.Proofs.YtomiigdpggeacaaDoor
/- Rows, and sheets, are the same as themselves. -/
namespace Go.Proofs.YtomiigdpggeacaaDoor
open Go Go.Em
set_option maxRecDepth 100000
def SRRI (l : List Rw) (k : Nat) (s : St) : Prop := ∃ (x : Env 31) (h : Heap) (i : Nat), s = ⟨x.l, h, []⟩ ∧ i + k = l.length ∧ x.v 0 = rowsD l ∧ x.v 1 = rowsD l ∧ x.v 5 = D.bool true ∧ x.v 6 = D.int i
set_option maxHeartbeats 1000000 in
theorem sameR_round (l : List Rw) (hl : l.length ≤ 2000000) : ∀ n, 0 ≤ n → ∀ k s, SRRI l k s → Res (k22l0.ev ⟨pg, 31, none⟩ (rc pg n) s) (Rnd (SRRI l) (fun x s => x = .exit 0 ∧ SRRI l 0 s) k) := by
  rintro n hn k s ⟨x, h, i, rfl, hik, v0, v1, v5, v6⟩
  simp only [rowsD] at v0 v1
  by_cases hlt : i < l.length
  · obtain ⟨r, hr⟩ : ∃ r, l[i] = r := ⟨l[i], rfl⟩
    have hw1 : IntKind.i64.wrap ((i : Int) + 1) = (i : Int) + 1 := wrap_i64 (by omega) (by omega)
    simp [k22l0, v0, v1, v5, v6, hlt, hr, rowD, D.cells, hw1]
    exact ⟨k - 1, by omega, _, _, i + 1, rfl, by omega, by simp [v0, rowsD, rowD], by simp [v1, rowsD, rowD], by simp, by simp⟩
  · simp [k22l0, v0, v6, hlt]
    exact ⟨_, _, i, rfl, by omega, by simp [v0, rowsD], by simp [v1, rowsD], by simp [v5], by simp [v6]⟩
theorem sameR_run (l : List Rw) (hl : l.length ≤ 2000000) {n : Nat} (hn : l.length + 5 ≤ n) : pureCall (rc pg n) 22 [rowsD l, rowsD l] = some (.ret (D.bool true)) := by
  obtain ⟨m, rfl, e⟩ := body (pg := pg) (f := 22) (args := [rowsD l, rowsD l]) (show 0 < n by omega) rfl rfl
  rw [e]
  simp [k22, Env.v_ini, rowsD, ev_loop]
  refine Res.endsAfter (lp_rule 0 (SRRI l) _ (sameR_round l hl) l.length m _ (by omega) ⟨_, _, 0, rfl, by omega, by simp [Env.v_ini, rowsD], by simp [Env.v_ini, rowsD], by simp, by simp⟩) ?_
  rintro x s ⟨rfl, x, h, i, rfl, hi, v0, v1, v5, v6⟩
  simp [v5]
theorem two_rows (a b : List Rw) : D.canonL [rowsD a, rowsD b] = true := by simp [rowsD, canonL_map rowD (fun _ => rfl) a, canonL_map rowD (fun _ => rfl) b]
theorem sameSh_run (i r c : Int) (l : List Rw) (hl : l.length ≤ 2000000) {n : Nat} (hn : l.length + 10 ≤ n) : pureCall (rc pg n) 13 [D.agg (sheetC i r c l), D.agg (sheetC i r c l)] = some (.ret (D.bool true)) := by
  obtain ⟨m, rfl, e⟩ := body (pg := pg) (f := 13) (args := [D.agg (sheetC i r c l), D.agg (sheetC i r c l)]) (show 0 < n by omega) rfl rfl
  rw [e]
  have hx := fun h => call_of (h := h) (pg := pg) (f := 22) rfl (two_rows l l) (@sameR_run l hl m (by omega))
  simp only [rowsD] at hx
  simp [k13, Env.v_ini, sheetC, rowsD, D.cells, D.one, hx]
end Go.Proofs.YtomiigdpggeacaaDoor
