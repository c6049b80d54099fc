/- Parts of sheets between marks, by the document: where they begin and end. -/
import Derived.Test.YtomiigdpggeacaaDoorClone
namespace Go.Proofs.YtomiigdpggeacaaDoor
open Go Go.Em
set_option maxRecDepth 100000
/-- Marks stand as their numbers rise. -/
theorem pos_cmp {i r c : Int} {l : List Rw} (h0 : chkF i r c l = 0) {a b : Int} {p q : Nat} (ha : atF c a l = (p : Int)) (hb : atF c b l = (q : Int)) : (b ≤ a ↔ q ≤ p) ∧ (b < a ↔ q < p) := by
  obtain ⟨hc, ho⟩ := chk_core h0
  obtain ⟨p1, p2, p3⟩ := at_row hc ha
  obtain ⟨q1, q2, q3⟩ := at_row hc hb
  rcases Nat.lt_trichotomy p q with h | h | h
  · have := ord_two c l (-1) ho p q p1 q1 h p2 q2
    rw [p3, q3] at this
    constructor <;> constructor <;> intro <;> omega
  · subst h
    rw [p3] at q3
    constructor <;> constructor <;> intro <;> omega
  · have := ord_two c l (-1) ho q p q1 p1 h q2 p2
    rw [p3, q3] at this
    constructor <;> constructor <;> intro <;> omega
/-- The places of the rows of two marks, or the error. -/
def cutF (i r c : Int) (l : List Rw) (a b : Int) (st : Bool) : Int × Int × Int :=
  if chkF i r c l ≠ 0 then (0, 0, chkF i r c l) else if atF c a l = -1 ∨ atF c b l = -1 then (0, 0, 3) else if atF c b l < atF c a l ∨ (st = true ∧ atF c a l = atF c b l) then (0, 0, 15) else (atF c a l, atF c b l, 0)
/-- The error of a sheet, and of two marks, the first one not below the second one. -/
def outF (i r c : Int) (l : List Rw) (a b : Int) : Int := if endsF i r c l a b ≠ 0 then endsF i r c l a b else if b < a then 15 else 0
theorem ends_or {i r c : Int} {l : List Rw} {a b : Int} : (chkF i r c l ≠ 0 ∧ endsF i r c l a b = chkF i r c l) ∨ (chkF i r c l = 0 ∧ (atF c a l = -1 ∨ atF c b l = -1) ∧ endsF i r c l a b = 3) ∨ (chkF i r c l = 0 ∧ endsF i r c l a b = 0 ∧ ∃ p q : Nat, atF c a l = (p : Int) ∧ atF c b l = (q : Int)) := by
  unfold endsF
  by_cases h0 : chkF i r c l = 0
  · rw [if_neg (by simpa using h0)]
    by_cases h1 : atF c a l = -1 ∨ atF c b l = -1
    · rw [if_pos h1]; exact .inr (.inl ⟨h0, h1, rfl⟩)
    · rw [if_neg h1]
      rcases at_ge c a l with h | ⟨p, hp, _⟩
      · exact absurd (.inl h) h1
      · rcases at_ge c b l with h | ⟨q, hq, _⟩
        · exact absurd (.inr h) h1
        · exact .inr (.inr ⟨h0, rfl, p, q, hp, hq⟩)
  · rw [if_pos h0]; exact .inl ⟨h0, rfl⟩
theorem cut_in (i r c : Int) (l : List Rw) (a b : Int) : (insF i r c l a b ≠ 0 ∧ cutF i r c l a b true = (0, 0, insF i r c l a b)) ∨ (insF i r c l a b = 0 ∧ chkF i r c l = 0 ∧ ∃ p q : Nat, atF c a l = (p : Int) ∧ atF c b l = (q : Int) ∧ p < q ∧ ¬ b ≤ a ∧ cutF i r c l a b true = ((p : Int), (q : Int), 0)) := by
  unfold insF cutF
  rcases @ends_or i r c l a b with ⟨h0, h1⟩ | ⟨h0, h1, h2⟩ | ⟨h0, h1, p, q, hp, hq⟩
  · left; rw [h1, if_pos h0, if_pos h0]; exact ⟨h0, rfl⟩
  · left; rw [h2, if_pos (by decide), if_neg (by simpa using h0), if_pos h1]; exact ⟨by decide, rfl⟩
  · obtain ⟨k1, k2⟩ := pos_cmp h0 hp hq
    rw [h1, if_neg (show ¬ (0 : Int) ≠ 0 by decide), if_neg (show ¬ chkF i r c l ≠ 0 by simpa using h0), hp, hq, if_neg (show ¬ ((p : Int) = -1 ∨ (q : Int) = -1) by omega)]
    by_cases h : b ≤ a
    · left; rw [if_pos h, if_pos (by have := k1.1 h; simp only [true_and]; omega)]; exact ⟨by decide, rfl⟩
    · right; rw [if_neg h, if_neg (by have := fun x => h (k1.2 x); simp only [true_and]; omega)]
      exact ⟨rfl, h0, p, q, rfl, rfl, by have := fun x => h (k1.2 x); omega, h, rfl⟩
theorem cut_out (i r c : Int) (l : List Rw) (a b : Int) : (outF i r c l a b ≠ 0 ∧ cutF i r c l a b false = (0, 0, outF i r c l a b)) ∨ (outF i r c l a b = 0 ∧ chkF i r c l = 0 ∧ ∃ p q : Nat, atF c a l = (p : Int) ∧ atF c b l = (q : Int) ∧ p ≤ q ∧ ¬ b < a ∧ cutF i r c l a b false = ((p : Int), (q : Int), 0)) := by
  unfold outF cutF
  rcases @ends_or i r c l a b with ⟨h0, h1⟩ | ⟨h0, h1, h2⟩ | ⟨h0, h1, p, q, hp, hq⟩
  · left; rw [h1, if_pos h0, if_pos h0]; exact ⟨h0, rfl⟩
  · left; rw [h2, if_pos (by decide), if_neg (by simpa using h0), if_pos h1]; exact ⟨by decide, rfl⟩
  · obtain ⟨k1, k2⟩ := pos_cmp h0 hp hq
    rw [h1, if_neg (show ¬ (0 : Int) ≠ 0 by decide), if_neg (show ¬ chkF i r c l ≠ 0 by simpa using h0), hp, hq, if_neg (show ¬ ((p : Int) = -1 ∨ (q : Int) = -1) by omega)]
    by_cases h : b < a
    · left; rw [if_pos h, if_pos (by have := k2.1 h; left; omega)]; exact ⟨by decide, rfl⟩
    · right; rw [if_neg h, if_neg (by have := fun x => h (k2.2 x); simp; omega)]
      exact ⟨rfl, h0, p, q, rfl, rfl, by have := fun x => h (k2.2 x); omega, h, rfl⟩
theorem rowsb_err (i r c a b : Int) (l : List Rw) (he0 : insF i r c l a b ≠ 0) {n : Nat} (hn : l.length + 100 ≤ n) : pureCall (rc pg n) 16 [D.agg (sheetC i r c l), D.int a, D.int b] = some (.ret (.tup [rowsD [], D.int (insF i r c l a b)])) := by
  obtain ⟨m, rfl, e⟩ := body (pg := pg) (f := 16) (args := [D.agg (sheetC i r c l), D.int a, D.int b]) (show 0 < n by omega) rfl rfl
  rw [e]
  have he := fun h => call_of (h := h) (pg := pg) (f := 51) rfl (sh_canon2 i r c a b l) (@ins_run i r c a b l m (by omega))
  have h' : (insF i r c l a b != 0) = true := by simpa using he0
  simp only [sheetC, rowsD] at he
  simp [k16, Env.v_ini, sheetC, rowsD, D.cells, D.one, he, h']
theorem splice_err (i r c a b : Int) (l rows : List Rw) (he0 : insF i r c l a b ≠ 0) {n : Nat} (hn : l.length + 100 ≤ n) : pureCall (rc pg n) 18 [D.agg (sheetC i r c l), D.int a, D.int b, rowsD rows] = some (.ret (.tup [.agg (sheetC 0 0 0 []), D.int (insF i r c l a b)])) := by
  obtain ⟨m, rfl, e⟩ := body (pg := pg) (f := 18) (args := [D.agg (sheetC i r c l), D.int a, D.int b, rowsD rows]) (show 0 < n by omega) rfl rfl
  rw [e]
  have he := fun h => call_of (h := h) (pg := pg) (f := 51) rfl (sh_canon2 i r c a b l) (@ins_run i r c a b l m (by omega))
  have h' : (insF i r c l a b != 0) = true := by simpa using he0
  simp only [sheetC, rowsD] at he
  simp [k18, Env.v_ini, sheetC, rowsD, D.cells, D.one, he, h', zerosD, List.range_succ]
theorem cutsh_err (i r c a b : Int) (l : List Rw) (he0 : outF i r c l a b ≠ 0) {n : Nat} (hn : l.length + 100 ≤ n) : pureCall (rc pg n) 20 [D.agg (sheetC i r c l), D.int a, D.int b] = some (.ret (.tup [.agg (sheetC 0 0 0 []), D.int (outF i r c l a b)])) := by
  obtain ⟨m, rfl, e⟩ := body (pg := pg) (f := 20) (args := [D.agg (sheetC i r c l), D.int a, D.int b]) (show 0 < n by omega) rfl rfl
  rw [e]
  have he := fun h => call_of (h := h) (pg := pg) (f := 56) rfl (sh_canon2 i r c a b l) (@ends_run i r c a b l m (by omega))
  simp only [sheetC, rowsD] at he
  unfold outF at he0 ⊢
  by_cases h1 : endsF i r c l a b = 0
  · rw [if_neg (by simpa using h1)] at he0 ⊢
    by_cases h2 : b < a
    · rw [if_pos h2]
      simp [k20, Env.v_ini, sheetC, rowsD, D.cells, D.one, he, h1, h2, zerosD, List.range_succ]
    · rw [if_neg h2] at he0; exact absurd rfl he0
  · rw [if_pos h1]
    have h' : (endsF i r c l a b != 0) = true := by simpa using h1
    simp [k20, Env.v_ini, sheetC, rowsD, D.cells, D.one, he, h', zerosD, List.range_succ]
set_option maxHeartbeats 2000000 in
theorem rcut_run (i r c a b : Int) (l : List Rw) (st : Bool) {n : Nat} (hn : l.length + 100 ≤ n) : pureCall (rc pg n) 54 [D.agg (sheetC i r c l), D.int a, D.int b, D.bool st] = some (.ret (.tup [D.int (cutF i r c l a b st).1, D.int (cutF i r c l a b st).2.1, D.int (cutF i r c l a b st).2.2])) := by
  obtain ⟨m, rfl, e⟩ := body (pg := pg) (f := 54) (args := [D.agg (sheetC i r c l), D.int a, D.int b, D.bool st]) (show 0 < n by omega) rfl rfl
  rw [e]
  have h1 := fun h => call_of (h := h) (pg := pg) (f := 45) rfl (sheet_canon i r c l) (@rcheck_run i r c l m (by omega))
  have hcn : ∀ mk : Int, D.canonL [D.agg (sheetC i r c l), D.int mk] = true := fun mk => by simp [sheetC, rowsD, canonL_map rowD (fun _ => rfl) l]
  simp only [sheetC, rowsD] at h1
  unfold cutF
  by_cases h0 : chkF i r c l = 0
  · have hl := chk_len h0
    have hx := fun mk h => call_of (h := h) (pg := pg) (f := 82) rfl (hcn mk) (@rat_run i r c mk l hl m (by omega))
    simp only [at_same _ _ _ (chk_ok h0), sheetC, rowsD] at hx
    rw [if_neg (by simpa using h0)]
    rcases at_ge c a l with ha | ⟨p, ha, _⟩
    · rw [if_pos (.inl ha)]
      simp [k54, Env.v_ini, sheetC, rowsD, D.cells, D.one, h1, h0, hx, ha]
    · rcases at_ge c b l with hb | ⟨q, hb, _⟩
      · rw [if_pos (.inr hb)]
        have ga : ¬ (p : Int) < 0 := by omega
        simp [k54, Env.v_ini, sheetC, rowsD, D.cells, D.one, h1, h0, hx, ha, hb, ga]
      · rw [ha, hb, if_neg (by omega)]
        have ga : ¬ (p : Int) < 0 := by omega
        have gb : ¬ (q : Int) < 0 := by omega
        by_cases hqp : q < p
        · rw [if_pos (.inl (by omega))]
          simp [k54, Env.v_ini, sheetC, rowsD, D.cells, D.one, h1, h0, hx, ha, hb, ga, gb, hqp]
        · cases st with
          | false =>
            rw [if_neg (by simp; omega)]
            simp [k54, Env.v_ini, sheetC, rowsD, D.cells, D.one, h1, h0, hx, ha, hb, ga, gb, hqp]
          | true =>
            by_cases he : p = q
            · rw [if_pos (.inr ⟨rfl, by omega⟩)]
              simp [k54, Env.v_ini, sheetC, rowsD, D.cells, D.one, h1, h0, hx, ha, hb, ga, gb, hqp, he]
            · rw [if_neg (by simp; omega)]
              have he' : ((p : Int) == (q : Int)) = false := by simp; omega
              simp [k54, Env.v_ini, sheetC, rowsD, D.cells, D.one, h1, h0, hx, ha, hb, ga, gb, hqp, he']
  · rw [if_pos h0]
    have h0' : (chkF i r c l != 0) = true := by simpa using h0
    simp [k54, Env.v_ini, sheetC, rowsD, D.cells, D.one, h1, h0, h0']
end Go.Proofs.YtomiigdpggeacaaDoor
/- Parts of sheets between marks, by the document: what it answers. -/
namespace Go.Proofs.YtomiigdpggeacaaDoor
open Go Go.Em
set_option maxRecDepth 100000
set_option maxHeartbeats 4000000 in
theorem rrows_run (i r c a b : Int) (l : List Rw) {n : Nat} (hn : l.length + 700 ≤ n) : pureCall (rc pg n) 17 [D.agg (sheetC i r c l), D.int a, D.int b] = pureCall (rc pg n) 16 [D.agg (sheetC i r c l), D.int a, D.int b] := by
  obtain ⟨m, hm, e⟩ := body (pg := pg) (f := 17) (n := n) (args := [D.agg (sheetC i r c l), D.int a, D.int b]) (show 0 < n by omega) rfl rfl
  rw [e]
  have hcn : D.canonL [D.agg (sheetC i r c l), D.int a, D.int b, D.bool true] = true := by simp [sheetC, rowsD, canonL_map rowD (fun _ => rfl) l]
  have h1 := fun h => call_of (h := h) (pg := pg) (f := 54) rfl hcn (@rcut_run i r c a b l true m (by omega))
  rcases cut_in i r c l a b with ⟨h0, h2⟩ | ⟨h0, hk, p, q, ha, hb, hpq, hab, h2⟩
  · rw [rowsb_err i r c a b l h0 (by omega)]
    rw [h2] at h1
    have h0' : (insF i r c l a b != 0) = true := by simpa using h0
    simp only [sheetC, rowsD] at h1
    simp [k17, Env.v_ini, sheetC, rowsD, D.cells, D.one, h1, h0']
  · rw [rowsb_run i r c a b l hk ha hb hpq hab (by omega)]
    rw [h2] at h1
    have hl := chk_len hk
    have hql : q < l.length := by
      rcases at_ge c b l with h | ⟨j, h1, h2⟩
      · omega
      · omega
    have hmp : List.take (q - (p + 1)) (List.drop (p + 1) (l.map rowD)) = (innF l p q).map rowD := by unfold innF; rw [List.map_take, List.map_drop]
    have hpl : (innF l p q).length ≤ 400 := by unfold innF; simp; omega
    obtain ⟨I, hI⟩ : ∃ I, I = innF l p q := ⟨_, rfl⟩
    rw [← hI] at hmp hpl ⊢
    have hw : IntKind.i64.wrap ((p : Int) + 1) = (p : Int) + 1 := wrap_i64 (by omega) (by omega)
    have hhead := rows_head l
    have t0 : 0 ≤ (p : Int) + 1 := by omega
    have t1 : (p : Int) + 1 ≤ (q : Int) := by omega
    have t2 : ((p : Int) + 1).toNat = p + 1 := by omega
    have t3 : q ≤ l.length := by omega
    have hcI := rows_canonL I
    have hcI' := fun h n => each_canon h n _ hcI
    simp only [sheetC, rowsD] at h1
    by_cases hI0 : I = []
    · subst hI0
      simp only [List.map_nil] at hmp
      simp [k17, Env.v_ini, sheetC, rowsD, D.cells, D.one, h1, hw, hhead, t0, t1, t2, t3, hmp, zerosD, apK_zero_slr, chunk]
    · have hall : (I.map rowD).all (fun e => e.cells.length == 3) = true := by simp [rowD, D.cells]
      have h3 := rows_cells I
      have h4 := rows_one I
      have hlen : I.length ≠ 0 := fun h => hI0 (List.eq_nil_of_length_eq_zero h)
      have z := fun t hh news k ty cs => appS_zero (t := t) (et := 71) (sz := 3) (bytes := 24) (h := hh) (m := I.length) (news := news) (k := k) (ty := ty) (cs := cs) (by omega) (by unfold room; omega) (by unfold maxLen; omega)
      have hl3 : (I.flatMap rowC).length = I.length * 3 := length_flatMap _ rowC_len I
      have hcan : D.canonL (I.flatMap rowC) = true := canonL_flatMap _ rowC_canon I
      have hch : chunk 3 I.length (I.flatMap rowC) = I.map rowD := chunk_flatMap _ (by decide) rowC_len I _ rfl
      have htk : (I.flatMap rowC).take (I.length * 3) = I.flatMap rowC := List.take_of_length_le (by omega)
      have hcan' := fun h n => each_canon h n _ hcan
      have hag : ∀ xs : List D, (D.agg xs).cells = xs := fun _ => rfl
      have hint : ∀ x : Int, (D.val (.int .i64 x)).cells = [D.val (.int .i64 x)] := fun _ => rfl
      simp [-nilOf, k17, Env.v_ini, sheetC, rowsD, hag, D.one, h1, hw, hhead, t0, t1, t2, t3, hmp, zerosD, hall, h3, h4, hlen, apK_some, z, hl3, htk, hch, hcan']
end Go.Proofs.YtomiigdpggeacaaDoor
/- The part of a sheet between two marks, by the program. -/
namespace Go.Proofs.YtomiigdpggeacaaDoor
open Go Go.Em
set_option maxRecDepth 100000
/-- The rows from the one of a mark to the one of another mark. -/
def partF (l : List Rw) (p q : Nat) : List Rw := (l.drop p).take (q + 1 - p)
theorem cutsh_run (i r c a b : Int) (l : List Rw) (h0 : chkF i r c l = 0) {p q : Nat} (ha : atF c a l = (p : Int)) (hb : atF c b l = (q : Int)) (hpq : p ≤ q) (hab : ¬ b < a) {n : Nat} (hn : l.length + 500 ≤ n) :
    pureCall (rc pg n) 20 [D.agg (sheetC i r c l), D.int a, D.int b] = some (.ret (.tup [.agg (sheetC i r c (partF l p q)), D.int 0])) := by
  obtain ⟨m, rfl, e⟩ := body (pg := pg) (f := 20) (args := [D.agg (sheetC i r c l), D.int a, D.int b]) (show 0 < n by omega) rfl rfl
  rw [e]
  have hl := chk_len h0
  have hcn : D.canonL [D.agg (sheetC i r c l), D.int a, D.int b] = true := by simp [sheetC, rowsD, canonL_map rowD (fun _ => rfl) l]
  have he := fun h => call_of (h := h) (pg := pg) (f := 56) rfl hcn (@ends_run i r c a b l m (by omega))
  have e0 : endsF i r c l a b = 0 := by
    unfold endsF
    rw [if_neg (by simpa using h0), ha, hb, if_neg (by omega)]
  rw [e0] at he
  have r1 := @rowOf_run i r c a l hl m (by omega)
  have r2 := @rowOf_run i r c b l hl m (by omega)
  rw [ha] at r1
  rw [hb] at r2
  have hql : q < l.length := by
    rcases at_ge c b l with h | ⟨j, h1, h2⟩
    · omega
    · omega
  have hpl : (partF l p q).length ≤ 400 := by unfold partF; simp; omega
  have hpn : partF l p q ≠ [] := by
    intro h
    have : (partF l p q).length = 0 := by rw [h]; rfl
    unfold partF at this
    simp at this; omega
  have hc := @clone_o (partF l p q) hpl m (by omega)
  have s1 : pg.sh 53 = false := rfl
  have s2 : pg.sh 52 = false := rfl
  have hcr : D.canonL (l.map rowD) = true := canonL_map rowD (fun _ => rfl) l
  have hcp : D.canonL ((partF l p q).map rowD) = true := canonL_map rowD (fun _ => rfl) _
  have hmp : List.take (q + 1 - p) (List.drop p (l.map rowD)) = (partF l p q).map rowD := by unfold partF; rw [List.map_take, List.map_drop]
  have hw : IntKind.i64.wrap ((q : Int) + 1) = (q : Int) + 1 := wrap_i64 (by omega) (by omega)
  have hhead := rows_head l
  have t1 : (p : Int) ≤ (q : Int) + 1 := by omega
  have t2 : ((q : Int) + 1).toNat = q + 1 := by omega
  have t3 : (q : Int) + 1 ≤ l.length := by omega
  have hcp' := fun h n => each_canon h n _ hcp
  simp only [sheetC, rowsD] at he r1 r2 hc
  simp [k20, Env.v_ini, sheetC, rowsD, D.cells, D.one, he, hab, r1, r2, dcore_f, s1, s2, hcr, hw, hhead, t1, t2, t3, hmp, hcp, hc, hcp', zerosD, List.range_succ]
end Go.Proofs.YtomiigdpggeacaaDoor
/- Other rows between two marks, and parts of sheets, by the document. -/
namespace Go.Proofs.YtomiigdpggeacaaDoor
open Go Go.Em
set_option maxRecDepth 100000
theorem agg_cells (xs : List D) : (D.agg xs).cells = xs := rfl
theorem int_cells (x : Int) : (D.val (.int .i64 x)).cells = [D.val (.int .i64 x)] := rfl
theorem slr_cells (k o n sz : Nat) (c : Option Nat) : (D.slr k o n sz c).cells = [.slr k o n sz c] := rfl
theorem sl_cells (z : Bool) (es : List D) : (D.sl z es).cells = [.sl z es] := rfl
theorem nil_cells : (D.val (.slice none 0 0)).cells = [D.val (.slice none 0 0)] := rfl
/-- A check of a sheet whose rows stand in the heap. -/
theorem rcheck_heap (i r c : Int) (S : List Rw) {m : Nat} (hm : S.length + 20 ≤ m) (K N : Nat) (H : Heap) (cs : List D) (hg : H.get K = some (.cells 71 cs)) (hN : N = S.length) (hcs : cs = S.flatMap rowC) :
    call pg (rc pg m) 45 [D.agg [D.int i, D.int r, D.int c, .slr K 0 N 3 none]] H = some (.ret (D.int (chkF i r c S)), H) := by
  subst hN hcs
  have hcan : D.canonL (S.flatMap rowC) = true := canonL_flatMap _ rowC_canon S
  have hch : chunk 3 S.length (S.flatMap rowC) = S.map rowD := chunk_flatMap _ (by decide) rowC_len S _ rfl
  have hl3 : (S.flatMap rowC).length = S.length * 3 := length_flatMap _ rowC_len S
  have htk : (S.flatMap rowC).take (S.length * 3) = S.flatMap rowC := List.take_of_length_le (by omega)
  have hz : frz H 23 (.slr K 0 S.length 3 none) = some (.sl false (S.map rowD), [K]) := by
    rw [frz_slr, hg, frzS_cells, if_pos ⟨by omega, by decide⟩, List.drop_zero, htk, each_canon H 21 _ hcan, Option.map_some, hch]
  have hza : frz H 24 (D.agg [D.int i, D.int r, D.int c, .slr K 0 S.length 3 none]) = some (D.agg (sheetC i r c S), [K]) := by
    rw [frz_agg', each_cons, each_cons, each_cons, each_cons, each_nil, hz, frz_int, frz_int, frz_int, eachK_some, eachK_some, eachK_some, eachK_some]; rfl
  exact callfz rfl (by rw [depth_is, each_cons, hza, each_nil, eachK_some]) (rcheck_run i r c S hm) (by simp [Out.d, D.flat])
theorem sheet_frz (i r c : Int) (S : List Rw) (K N : Nat) (H : Heap) (cs : List D) (hg : H.get K = some (.cells 71 cs)) (hN : N = S.length) (hcs : cs = S.flatMap rowC) (n : Nat) :
    frz H (n + 3) (.slr K 0 N 3 none) = some (.sl false (S.map rowD), [K]) := by
  subst hN hcs
  have hcan : D.canonL (S.flatMap rowC) = true := canonL_flatMap _ rowC_canon S
  have hch : chunk 3 S.length (S.flatMap rowC) = S.map rowD := chunk_flatMap _ (by decide) rowC_len S _ rfl
  have hl3 : (S.flatMap rowC).length = S.length * 3 := length_flatMap _ rowC_len S
  have htk : (S.flatMap rowC).take (S.length * 3) = S.flatMap rowC := List.take_of_length_le (by omega)
  rw [frz_slr, hg, frzS_cells, if_pos ⟨by omega, by decide⟩, List.drop_zero, htk, each_canon H (n + 1) _ hcan, Option.map_some, hch]
set_option maxHeartbeats 16000000 in
theorem rsplice_run (i r c a b : Int) (l rows : List Rw) (hr : rows.length ≤ 1500000) {n : Nat} (hn : l.length + rows.length + 2000 ≤ n) : pureCall (rc pg n) 19 [D.agg (sheetC i r c l), D.int a, D.int b, rowsD rows] = pureCall (rc pg n) 18 [D.agg (sheetC i r c l), D.int a, D.int b, rowsD rows] := by
  obtain ⟨m, hm, e⟩ := body (pg := pg) (f := 19) (n := n) (args := [D.agg (sheetC i r c l), D.int a, D.int b, rowsD rows]) (show 0 < n by omega) rfl rfl
  rw [e]
  have hcn : D.canonL [D.agg (sheetC i r c l), D.int a, D.int b, D.bool true] = true := by simp [sheetC, rowsD, canonL_map rowD (fun _ => rfl) l]
  have h1 := fun h => call_of (h := h) (pg := pg) (f := 54) rfl hcn (@rcut_run i r c a b l true m (by omega))
  rcases cut_in i r c l a b with ⟨h0, h2⟩ | ⟨h0, hk, p, q, ha, hb, hpq, hab, h2⟩
  · rw [splice_err i r c a b l rows h0 (by omega)]
    rw [h2] at h1
    have h0' : (insF i r c l a b != 0) = true := by simpa using h0
    simp only [sheetC, rowsD] at h1
    simp [k19, Env.v_ini, sheetC, rowsD, D.cells, D.one, h1, h0', zerosD, List.range_succ]
  · rw [splice_run i r c a b l rows hk ha hb hpq hab hr (by omega)]
    rw [h2] at h1
    have hl := chk_len hk
    have hql : q < l.length := by
      rcases at_ge c b l with h | ⟨j, h1, h2⟩
      · omega
      · omega
    have hw : IntKind.i64.wrap ((p : Int) + 1) = (p : Int) + 1 := wrap_i64 (by omega) (by omega)
    have hhead := rows_head l
    have t0 : 0 ≤ (p : Int) + 1 := by omega
    have t1 : (p : Int) + 1 ≤ (l.length : Int) := by omega
    have t2 : ((p : Int) + 1).toNat = p + 1 := by omega
    have t3 : q ≤ l.length := by omega
    obtain ⟨A, hA⟩ : ∃ A, A = l.take (p + 1) := ⟨_, rfl⟩
    obtain ⟨C, hC⟩ : ∃ C, C = l.drop q := ⟨_, rfl⟩
    have mA : (l.map rowD).take (p + 1) = A.map rowD := by rw [hA, List.map_take]
    have mC : (l.map rowD).drop q = C.map rowD := by rw [hC, List.map_drop]
    have mC2 : (C.map rowD).take (l.length - q) = C.map rowD := List.take_of_length_le (by rw [hC]; simp)
    have lA : A.length = p + 1 := by rw [hA]; simp; omega
    have lC : C.length = l.length - q := by rw [hC]; simp
    have hS : splF l p q rows = A ++ (rows ++ C) := by rw [hA, hC]; rfl
    rw [hS]
    have hallA : (A.map rowD).all (fun e => e.cells.length == 3) = true := by simp [rowD, D.cells]
    have hallB : (rows.map rowD).all (fun e => e.cells.length == 3) = true := by simp [rowD, D.cells]
    have hallC : (C.map rowD).all (fun e => e.cells.length == 3) = true := by simp [rowD, D.cells]
    have cA := rows_cells A
    have cB := rows_cells rows
    have cC := rows_cells C
    have oA := rows_one A
    have oB := rows_one rows
    have oC := rows_one C
    have nA : A.length ≠ 0 := by omega
    have nC : C.length ≠ 0 := by omega
    have fA : (A.flatMap rowC).length = A.length * 3 := length_flatMap _ rowC_len A
    have fB : (rows.flatMap rowC).length = rows.length * 3 := length_flatMap _ rowC_len rows
    have z := fun t hh news k ty cs => appS_zero (t := t) (et := 71) (sz := 3) (bytes := 24) (h := hh) (m := A.length) (news := news) (k := k) (ty := ty) (cs := cs) (by omega) (by unfold room; omega) (by unfold maxLen; omega)
    simp only [sheetC, rowsD] at h1
    by_cases hB : rows = []
    · subst hB
      have z2 := fun t hh k => appS_none (t := t) (et := 71) (sz := 3) (bytes := 24) (h := hh) (m := C.length) (news := C.flatMap rowC) (k := k) (n := A.length) (cs := A.flatMap rowC) fA (by omega) (by unfold room; omega) (by unfold maxLen; omega)
      have hck := @rcheck_heap i r c (A ++ C) m (by rw [List.length_append]; omega)
      have hsf := @sheet_frz i r c (A ++ C)
      rw [List.length_append, List.flatMap_append] at hck hsf
      by_cases hk' : chkF i r c (A ++ C) = 0
      · simp [-nilOf, -List.append_assoc, k19, Env.v_ini, sheetC, rowsD, agg_cells, int_cells, slr_cells, sl_cells, nil_cells, D.one, h1, hw, hhead, t0, t1, t2, t3, mA, mC, mC2, zerosD, hallA, hallB, hallC, cA, cC, oA, oC, nA, nC, apK_some, apK_zero_slr, z, z2, List.range_succ, hck, hk', hsf]
      · have hk2 : (chkF i r c (A ++ C) != 0) = true := by simpa using hk'
        simp [-nilOf, -List.append_assoc, k19, Env.v_ini, sheetC, rowsD, agg_cells, int_cells, slr_cells, sl_cells, nil_cells, D.one, h1, hw, hhead, t0, t1, t2, t3, mA, mC, mC2, zerosD, hallA, hallB, hallC, cA, cC, oA, oC, nA, nC, apK_some, apK_zero_slr, z, z2, List.range_succ, hck, hk', hk2]
    · have nB : rows.length ≠ 0 := fun h => hB (List.eq_nil_of_length_eq_zero h)
      rw [← List.append_assoc]
      have fAB : (A.flatMap rowC ++ rows.flatMap rowC).length = (A.length + rows.length) * 3 := by rw [List.length_append, fA, fB]; omega
      have z2 := fun t hh k => appS_none (t := t) (et := 71) (sz := 3) (bytes := 24) (h := hh) (m := rows.length) (news := rows.flatMap rowC) (k := k) (n := A.length) (cs := A.flatMap rowC) fA (by omega) (by unfold room; omega) (by unfold maxLen; omega)
      have z3 := fun t hh k => appS_none (t := t) (et := 71) (sz := 3) (bytes := 24) (h := hh) (m := C.length) (news := C.flatMap rowC) (k := k) (n := A.length + rows.length) (cs := A.flatMap rowC ++ rows.flatMap rowC) fAB (by omega) (by unfold room; omega) (by unfold maxLen; omega)
      have hck := @rcheck_heap i r c (A ++ rows ++ C) m (by rw [List.length_append, List.length_append]; omega)
      have hsf := @sheet_frz i r c (A ++ rows ++ C)
      rw [List.length_append, List.length_append, List.flatMap_append, List.flatMap_append] at hck hsf
      by_cases hk' : chkF i r c (A ++ rows ++ C) = 0
      · simp [-nilOf, -List.append_assoc, k19, Env.v_ini, sheetC, rowsD, agg_cells, int_cells, slr_cells, sl_cells, nil_cells, D.one, h1, hw, hhead, t0, t1, t2, t3, mA, mC, mC2, zerosD, hallA, hallB, hallC, cA, cB, cC, oA, oB, oC, nA, nB, nC, apK_some, z, z2, z3, List.range_succ, hck, hk', hsf]
      · have hk2 : (chkF i r c (A ++ rows ++ C) != 0) = true := by simpa using hk'
        simp [-nilOf, -List.append_assoc, k19, Env.v_ini, sheetC, rowsD, agg_cells, int_cells, slr_cells, sl_cells, nil_cells, D.one, h1, hw, hhead, t0, t1, t2, t3, mA, mC, mC2, zerosD, hallA, hallB, hallC, cA, cB, cC, oA, oB, oC, nA, nB, nC, apK_some, z, z2, z3, List.range_succ, hck, hk', hk2]
set_option maxHeartbeats 8000000 in
theorem rcutsh_run (i r c a b : Int) (l : List Rw) {n : Nat} (hn : l.length + 1000 ≤ n) : pureCall (rc pg n) 21 [D.agg (sheetC i r c l), D.int a, D.int b] = pureCall (rc pg n) 20 [D.agg (sheetC i r c l), D.int a, D.int b] := by
  obtain ⟨m, hm, e⟩ := body (pg := pg) (f := 21) (n := n) (args := [D.agg (sheetC i r c l), D.int a, D.int b]) (show 0 < n by omega) rfl rfl
  rw [e]
  have hcn : D.canonL [D.agg (sheetC i r c l), D.int a, D.int b, D.bool false] = true := by simp [sheetC, rowsD, canonL_map rowD (fun _ => rfl) l]
  have h1 := fun h => call_of (h := h) (pg := pg) (f := 54) rfl hcn (@rcut_run i r c a b l false m (by omega))
  rcases cut_out i r c l a b with ⟨h0, h2⟩ | ⟨h0, hk, p, q, ha, hb, hpq, hab, h2⟩
  · rw [cutsh_err i r c a b l h0 (by omega)]
    rw [h2] at h1
    have h0' : (outF i r c l a b != 0) = true := by simpa using h0
    simp only [sheetC, rowsD] at h1
    simp [k21, Env.v_ini, sheetC, rowsD, D.cells, D.one, h1, h0', zerosD, List.range_succ]
  · rw [cutsh_run i r c a b l hk ha hb hpq hab (by omega)]
    rw [h2] at h1
    have hl := chk_len hk
    have hql : q < l.length := by
      rcases at_ge c b l with h | ⟨j, h1, h2⟩
      · omega
      · omega
    have hw : IntKind.i64.wrap ((q : Int) + 1) = (q : Int) + 1 := wrap_i64 (by omega) (by omega)
    have hhead := rows_head l
    have t1 : (p : Int) ≤ (q : Int) + 1 := by omega
    have t2 : ((q : Int) + 1).toNat = q + 1 := by omega
    have t3 : (q : Int) + 1 ≤ l.length := by omega
    have hpl : (partF l p q).length ≠ 0 := by unfold partF; simp; omega
    have hpl2 : (partF l p q).length ≤ 400 := by unfold partF; simp; omega
    have hmp : List.take (q + 1 - p) (List.drop p (l.map rowD)) = (partF l p q).map rowD := by unfold partF; rw [List.map_take, List.map_drop]
    obtain ⟨A, hA⟩ : ∃ A, A = partF l p q := ⟨_, rfl⟩
    rw [← hA] at hpl hpl2 hmp ⊢
    have hallA : (A.map rowD).all (fun e => e.cells.length == 3) = true := by simp [rowD, D.cells]
    have cA := rows_cells A
    have oA := rows_one A
    have z := fun t hh news k ty cs => appS_zero (t := t) (et := 71) (sz := 3) (bytes := 24) (h := hh) (m := A.length) (news := news) (k := k) (ty := ty) (cs := cs) (by omega) (by unfold room; omega) (by unfold maxLen; omega)
    have hsf := @sheet_frz i r c A
    simp only [sheetC, rowsD] at h1
    simp [-nilOf, k21, Env.v_ini, sheetC, rowsD, agg_cells, int_cells, slr_cells, sl_cells, nil_cells, D.one, h1, hw, hhead, t1, t2, t3, hmp, zerosD, hallA, cA, oA, hpl, apK_some, z, List.range_succ, hsf]
end Go.Proofs.YtomiigdpggeacaaDoor
/- Whatever sheet, marks and rows (not too many) it is called with, the code of SheetCuts returns true. -/
namespace Go.Proofs.YtomiigdpggeacaaDoor
open Go Go.Em
set_option maxRecDepth 100000
theorem rowsb_some (i r c a b : Int) (l : List Rw) {n : Nat} (hn : l.length + 700 ≤ n) : ∃ (R : List Rw) (E : Int), R.length ≤ 400 ∧ pureCall (rc pg n) 16 [D.agg (sheetC i r c l), D.int a, D.int b] = some (.ret (.tup [rowsD R, D.int E])) := by
  rcases cut_in i r c l a b with ⟨h0, h2⟩ | ⟨h0, hk, p, q, ha, hb, hpq, hab, h2⟩
  · exact ⟨[], _, by simp, rowsb_err i r c a b l h0 (by omega)⟩
  · have hl := chk_len hk
    exact ⟨innF l p q, 0, by unfold innF; simp; omega, rowsb_run i r c a b l hk ha hb hpq hab (by omega)⟩
theorem splice_some (i r c a b : Int) (l rows : List Rw) (hr : rows.length ≤ 1500000) {n : Nat} (hn : l.length + rows.length + 2000 ≤ n) : ∃ (i' r' c' : Int) (S : List Rw) (E : Int), S.length ≤ rows.length + 400 ∧ pureCall (rc pg n) 18 [D.agg (sheetC i r c l), D.int a, D.int b, rowsD rows] = some (.ret (.tup [.agg (sheetC i' r' c' S), D.int E])) := by
  rcases cut_in i r c l a b with ⟨h0, h2⟩ | ⟨h0, hk, p, q, ha, hb, hpq, hab, h2⟩
  · exact ⟨0, 0, 0, [], _, by simp, splice_err i r c a b l rows h0 (by omega)⟩
  · have hl := chk_len hk
    have hql : q < l.length := by
      rcases at_ge c b l with h | ⟨j, h1, h2⟩
      · omega
      · omega
    have hS := spl_len l rows hpq hql
    have e := splice_run i r c a b l rows hk ha hb hpq hab hr (n := n) (by omega)
    by_cases hc : chkF i r c (splF l p q rows) = 0
    · rw [if_pos hc] at e
      exact ⟨i, r, c, _, 0, by omega, e⟩
    · rw [if_neg hc] at e
      exact ⟨0, 0, 0, [], _, by simp, e⟩
theorem cutsh_some (i r c a b : Int) (l : List Rw) {n : Nat} (hn : l.length + 1000 ≤ n) : ∃ (i' r' c' : Int) (S : List Rw) (E : Int), S.length ≤ 400 ∧ pureCall (rc pg n) 20 [D.agg (sheetC i r c l), D.int a, D.int b] = some (.ret (.tup [.agg (sheetC i' r' c' S), D.int E])) := by
  rcases cut_out i r c l a b with ⟨h0, h2⟩ | ⟨h0, hk, p, q, ha, hb, hpq, hab, h2⟩
  · exact ⟨0, 0, 0, [], _, by simp, cutsh_err i r c a b l h0 (by omega)⟩
  · have hl := chk_len hk
    exact ⟨i, r, c, partF l p q, 0, by unfold partF; simp; omega, cutsh_run i r c a b l hk ha hb hpq hab (by omega)⟩
set_option maxHeartbeats 16000000 in
theorem cuts_law (si sr sc : Int) (l : List Rw) (a b : Int) (rows : List Rw) (hr : rows.length ≤ 1500000) {f : Nat} (hn : l.length + rows.length + 6000 ≤ f) : pureCall (rc pg f) 6 [.agg (sheetC si sr sc l), .agg [D.int a, D.int b], rowsD rows] = some (.ret (D.bool true)) := by
  obtain ⟨m, hm, e⟩ := body (pg := pg) (f := 6) (args := [.agg (sheetC si sr sc l), .agg [D.int a, D.int b], rowsD rows]) (show 0 < f by omega) rfl rfl
  rw [e]
  have hs := @sane_call m (by omega)
  have hc4 : D.canonL [D.agg (sheetC si sr sc l), D.int a, D.int b, rowsD rows] = true := by simp [sheetC, rowsD, canonL_map rowD (fun _ => rfl) l, canonL_map rowD (fun _ => rfl) rows]
  obtain ⟨R, E1, l1, x1⟩ := rowsb_some si sr sc a b l (n := m) (by omega)
  obtain ⟨i2, r2, c2, S, E2, l2, x2⟩ := splice_some si sr sc a b l rows hr (n := m) (by omega)
  obtain ⟨i3, r3, c3, T, E3, l3, x3⟩ := cutsh_some si sr sc a b l (n := m) (by omega)
  have y1 := rrows_run si sr sc a b l (n := m) (by omega)
  have y2 := rsplice_run si sr sc a b l rows hr (n := m) (by omega)
  have y3 := rcutsh_run si sr sc a b l (n := m) (by omega)
  rw [x1] at y1
  rw [x2] at y2
  rw [x3] at y3
  have d1 := fun h => call_of (h := h) (pg := pg) (f := 16) rfl (sh_canon2 si sr sc a b l) x1
  have d2 := fun h => call_of (h := h) (pg := pg) (f := 17) rfl (sh_canon2 si sr sc a b l) y1
  have d3 := fun h => call_of (h := h) (pg := pg) (f := 18) rfl hc4 x2
  have d4 := fun h => call_of (h := h) (pg := pg) (f := 19) rfl hc4 y2
  have d5 := fun h => call_of (h := h) (pg := pg) (f := 20) rfl (sh_canon2 si sr sc a b l) x3
  have d6 := fun h => call_of (h := h) (pg := pg) (f := 21) rfl (sh_canon2 si sr sc a b l) y3
  have d7 := fun h => call_of (h := h) (pg := pg) (f := 22) rfl (two_rows R R) (@sameR_run R (by omega) m (by omega))
  have d8 := fun h => call_of (h := h) (pg := pg) (f := 13) rfl (two_canon i2 r2 c2 S i2 r2 c2 S) (@sameSh_run i2 r2 c2 S (by omega) m (by omega))
  have d9 := fun h => call_of (h := h) (pg := pg) (f := 13) rfl (two_canon i3 r3 c3 T i3 r3 c3 T) (@sameSh_run i3 r3 c3 T (by omega) m (by omega))
  simp only [sheetC, rowsD] at d1 d2 d3 d4 d5 d6 d7 d8 d9
  simp [k6, Env.v_ini, sheetC, rowsD, D.cells, D.one, hs, d1, d2, d3, d4, d5, d6, d7, d8, d9]
end Go.Proofs.YtomiigdpggeacaaDoor
