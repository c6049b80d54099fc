/- The marks of a sheet, by the document. -/
import Derived.Test.YtkdcoldkncpkoaaDoorRef3
namespace Go.Proofs.YtkdcoldkncpkoaaDoor
open Go Go.Em
set_option maxRecDepth 100000
def MI (sc : List D) (c : Int) (l : List Rw) (k : Nat) (s : St) : Prop := ∃ (x : Env 35) (h : Heap) (i : Nat) (d : D), s = ⟨x.l, h, []⟩ ∧ i + k = l.length ∧ h.get 1 = some (.cells 26 sc) ∧ x.v 1 = .ptr 1 0 ∧ x.v 4 = D.int i ∧ x.v 3 = d ∧ Gl h d (marksF c (l.take i)) ∧ h.Fr ∧ 1 < h.next
def MQ (sc : List D) (c : Int) (l : List Rw) (x : Ex) (s : St) : Prop := x = .exit 0 ∧ MI sc c l 0 s
set_option maxHeartbeats 1000000 in
theorem rmarks_round (i0 r0 c : Int) (l : List Rw) (hl : l.length ≤ 400) : ∀ n, 3 ≤ n → ∀ k s, MI (sheetC i0 r0 c l) c l k s → Res (k18l0.ev ⟨pg, 35, none⟩ (rc pg n) s) (Rnd (MI (sheetC i0 r0 c l) c l) (MQ (sheetC i0 r0 c l) c l) k) := by
  rintro n hn k s ⟨x, h, i, d, rfl, hik, hg, v1, v4, v3, hd, hf, h1⟩
  simp only [sheetC, rowsD] at hg
  have hfr : ∀ j, h.raw (h.next + j) = none := fun j => hf _ (by omega)
  have ne3 : ∀ j, (1 = h.next + j) = False := fun j => by simp <;> omega
  by_cases hlt : i < l.length
  · obtain ⟨r, hr⟩ : ∃ r, l[i] = r := ⟨l[i], rfl⟩
    have htake : l.take (i + 1) = l.take i ++ [r] := by rw [List.take_add_one, List.getElem?_eq_getElem hlt, hr]; rfl
    have hw1 : IntKind.i64.wrap ((i : Int) + 1) = (i : Int) + 1 := wrap_i64 (by omega) (by omega)
    have hm := @rmark_run n (by omega)
    have s1 : pg.sh 26 = false := rfl
    have hms := marks_snoc c (l.take i) r
    rw [← htake] at hms
    by_cases hk1 : r.k = 1
    · have hk1' : (r.k == 1) = true := by simp [hk1]
      rw [if_pos hk1] at hms
      rcases hd with ⟨hl0, rfl⟩ | ⟨k1, rfl, hg1, hk2, hk3⟩
      · simp [k18l0, v1, v4, v3, hg, hlt, hr, rowD, D.cells, D.one, hk1', hw1, ne3, dcore_f, s1, hm, zerosD, hfr, Nat.add_assoc, apK_some, room, maxLen]
        refine ⟨k - 1, by omega, _, _, i + 1, .slr (h.next + 103) 0 1 1 none, rfl, by omega, by simp [hg, sheetC, rowsD, ne3], by simp [v1], by simp, by simp, .inr ⟨h.next + 103, by simp [hms, hl0], by simp [hms, hl0], by simp <;> omega, by omega⟩, ?_, by simp <;> omega⟩
        repeat' first | exact hf | apply Heap.Fr.bump | apply Heap.Fr.set
        all_goals (simp <;> omega)
      · have e1 : ∀ j, (k1 = h.next + j) = False := fun j => by simp <;> omega
        have e2 : ∀ j, (h.next + j = k1) = False := fun j => by simp <;> omega
        have e3 : (1 = k1) = False := by simp <;> omega
        have hl1 := marks_len c (l.take i)
        rw [List.length_take] at hl1
        have happ := fun t hh news => appS_none (t := t) (et := 3) (sz := 1) (bytes := 8) (h := hh) (m := 1) (news := news) (k := k1) (n := (marksF c (l.take i)).length) (cs := (marksF c (l.take i)).map D.int) (by simp) (by omega) (by unfold room; omega) (by unfold maxLen; omega)
        simp [k18l0, v1, v4, v3, hg, hlt, hr, rowD, D.cells, D.one, hk1', hw1, ne3, dcore_f, s1, hm, zerosD, hfr, Nat.add_assoc, apK_some, hg1, e1, e2, e3, happ]
        refine ⟨k - 1, by omega, _, _, i + 1, .slr (h.next + 103) 0 ((marksF c (l.take i)).length + 1) 1 none, rfl, by omega, by simp [hg, sheetC, rowsD, ne3, e3], by simp [v1], by simp, by simp, .inr ⟨h.next + 103, by simp [hms], by simp [hms], by simp <;> omega, by omega⟩, ?_, by simp <;> omega⟩
        repeat' first | exact hf | apply Heap.Fr.bump | apply Heap.Fr.set
        all_goals (simp <;> omega)
    · have hk1' : (r.k == 1) = false := by simp [hk1]
      rw [if_neg hk1, List.append_nil] at hms
      simp [k18l0, v1, v4, v3, hg, hlt, hr, rowD, D.cells, hk1', hw1]
      refine ⟨k - 1, by omega, _, _, i + 1, d, rfl, by omega, by simp [hg, sheetC, rowsD], by simp [v1], by simp, by simp [v3], ?_, ((hf.bump 35).bump 35).bump 35, by simp <;> omega⟩
      rw [hms]
      rcases hd with ⟨hl0, rfl⟩ | ⟨k1, rfl, hg1, hk2, hk3⟩
      · exact .inl ⟨hl0, rfl⟩
      · exact .inr ⟨k1, rfl, by simpa using hg1, by simp <;> omega, hk3⟩
  · simp [k18l0, v1, v4, hg, hlt]
    have hi : i = l.length := by omega
    refine ⟨rfl, _, _, i, d, rfl, by omega, by simp [hg, sheetC, rowsD], by simp [v1], by simp [v4], by simp [v3], ?_, hf.bump 35, by simp <;> omega⟩
    rcases hd with ⟨hl0, rfl⟩ | ⟨k1, rfl, hg1, hk2, hk3⟩
    · exact .inl ⟨hl0, rfl⟩
    · exact .inr ⟨k1, rfl, by simpa using hg1, by simp <;> omega, hk3⟩
/-- A grown list, frozen. -/
theorem Gl.frozen {h : Heap} {d : D} {l : List Int} (g : Gl h d l) (n : Nat) : ∃ ks, frz h (n + 2) d = some (.sl false (l.map D.int), ks) := by
  rcases g with ⟨rfl, rfl⟩ | ⟨k, rfl, hg, _, _⟩
  · exact ⟨[], frz_nil⟩
  · have hch : ∀ l : List Int, chunk 1 l.length (l.map D.int) = l.map D.int := by
      intro l
      induction l with
      | nil => rfl
      | cons a l ih => rw [List.length_cons, List.map_cons, chunk, if_pos rfl]; simp only [List.getD_cons_zero, List.drop_succ_cons, List.drop_zero]; rw [ih]
    have htk : (l.map D.int).take l.length = l.map D.int := List.take_of_length_le (by simp)
    have hea := each_canon h n (l.map D.int) (canonL_map _ (fun _ => rfl) l)
    exact ⟨[k], by rw [frz_slr, hg, frzS_cells]; simp only [List.drop_zero, Nat.mul_one, htk, hea, Option.map_some, hch, List.length_map]; simp⟩
/-- A sheet's marks. -/
def shMarks (i r c : Int) (l : List Rw) : List Int := if chkF i r c l = 0 then marksF c l else []
theorem rmarks_run (i r c : Int) (l : List Rw) {n : Nat} (hn : l.length + 30 ≤ n) : pureCall (rc pg n) 18 [D.agg (sheetC i r c l)] = some (.ret (.sl false ((shMarks i r c l).map D.int))) := by
  obtain ⟨m, rfl, e⟩ := body (pg := pg) (f := 18) (args := [D.agg (sheetC i r c l)]) (show 0 < n by omega) rfl rfl
  rw [e]
  have hc := fun h => call_of (h := h) (pg := pg) (f := 24) rfl (sheet_canon i r c l) (@rcheck_run i r c l m (by omega))
  simp only [sheetC, rowsD] at hc
  by_cases h0 : chkF i r c l = 0
  · have hl : l.length ≤ 400 := by
      apply len_of_ok
      unfold chkF at h0
      split at h0
      · omega
      · split at h0
        · rename_i h1; exact absurd h0 h1
        · rename_i h1; simpa using h1
    simp [k18, Env.v_ini, sheetC, rowsD, D.cells, D.one, hc, h0, ev_loop]
    refine Res.endsAfter (P := MQ (sheetC i r c l) c l) (lp_rule 3 (MI (sheetC i r c l) c l) (MQ (sheetC i r c l) c l) (rmarks_round i r c l hl) l.length m _ (by omega)
      ⟨_, _, 0, .val (.slice none 0 0), rfl, by omega, by simp [sheetC, rowsD], by simp, by simp, by simp, .inl ⟨rfl, rfl⟩, ?_, by simp⟩) ?_
    · repeat' first | exact Heap.Fr.empty | apply Heap.Fr.bump | apply Heap.Fr.set
      all_goals simp
    rintro x s ⟨rfl, x, h, j, d, rfl, hj, hg, v1, v4, v3, hd, hf, h1⟩
    obtain rfl : j = l.length := by omega
    rw [List.take_length] at hd
    have hd' : Gl ((h.bump 35)) d (marksF c l) := by
      rcases hd with ⟨hl0, rfl⟩ | ⟨k1, rfl, hg1, hk2, hk3⟩
      · exact .inl ⟨hl0, rfl⟩
      · exact .inr ⟨k1, rfl, by simpa using hg1, by simp <;> omega, hk3⟩
    obtain ⟨ks, hfz⟩ := hd'.frozen 22
    simp [v3, shMarks, h0, hfz]
  · have h0' : (chkF i r c l != 0) = true := by simpa using h0
    simp [k18, Env.v_ini, sheetC, rowsD, D.cells, D.one, hc, h0', h0, shMarks]
end Go.Proofs.YtkdcoldkncpkoaaDoor
