/- What the rows are, or their error. -/
import Derived.Test.YthgnholbajpdgaaDoorNat
namespace Go.Proofs.YthgnholbajpdgaaDoor
open Go Go.Em
set_option maxRecDepth 100000
def hiSum (l : List Rw) : Int := (l.map fun r => (natF r).hi).sum
def rowsD (l : List Rw) : D := .sl false (l.map rowD)
def okAll (l : List Rw) : Bool := l.all fun r => (natF r).valid
/-- The natures of rows, and an error. -/
def natsF (l : List Rw) : List Nt × Int :=
  if 400 < l.length then ([], 2) else if okAll l = false then ([], 10) else if 100000 < hiSum l then ([], 2) else (l.map natF, 0)
theorem natC_len (r : Rw) : (natC (natF r)).length = 7 := rfl
theorem natC_canon (r : Rw) : D.canonL (natC (natF r)) = true := by
  simp only [natC, D.canonL, D.canon, Bool.and_true, Bool.not_false, Bool.true_and]
  exact canonL_map _ (fun _ => rfl) _
theorem hi_bound (r : Rw) (hv : (natF r).valid = true) : 0 ≤ (natF r).hi ∧ (natF r).hi ≤ 1000 := by
  unfold natF at hv ⊢
  split
  · simp
  split
  · simp
  split
  · simp
  split
  · simp_all [inB]; omega
  split
  · simp
  split
  · simp_all [inB]; omega
  · simp
theorem hiSum_bound : ∀ (l : List Rw), okAll l = true → 0 ≤ hiSum l ∧ hiSum l ≤ 1000 * l.length
  | [], _ => by simp [hiSum]
  | r :: l, h => by
    simp only [okAll, List.all_cons, Bool.and_eq_true] at h
    have h1 := hi_bound r h.1
    have h2 := hiSum_bound l h.2
    have e : hiSum (r :: l) = (natF r).hi + hiSum l := by simp [hiSum]
    rw [e, List.length_cons]
    omega
theorem hiSum_snoc (l : List Rw) (r : Rw) : hiSum (l ++ [r]) = hiSum l + (natF r).hi := by simp [hiSum]
theorem okAll_snoc (l : List Rw) (r : Rw) : okAll (l ++ [r]) = (okAll l && (natF r).valid) := by simp [okAll]

/-- The loop's state: so many rows are done. -/
def NI (l : List Rw) (kL : Nat) (k : Nat) (s : St) : Prop := ∃ (x : Env 41) (h : Heap) (i : Nat) (cs : List D), s = ⟨x.l, h, []⟩ ∧ i + k = l.length ∧ x.v 17 = .sl false (l.map rowD) ∧ x.v 18 = D.int l.length ∧ x.v 19 = D.int i ∧ x.v 4 = kindsD ∧
  x.v 5 = .slr kL 0 i 7 (some l.length) ∧ x.v 6 = D.int (hiSum (l.take i)) ∧ h.get kL = some (.cells 82 cs) ∧ cs = (l.take i).flatMap (fun r => natC (natF r)) ∧ kL < h.next ∧ h.Fr ∧ okAll (l.take i) = true
/-- Its end. -/
def NQ (l : List Rw) (kL : Nat) (x : Ex) (s : St) : Prop :=
  (x = .exit 0 ∧ NI l kL 0 s) ∨ (x = .ret ∧ okAll l = false ∧ ∃ (x : Env 41) (h : Heap), s = ⟨x.l, h, []⟩ ∧ x.v 2 = .val (.slice none 0 0) ∧ x.v 3 = D.int 10)

set_option maxHeartbeats 1000000 in
theorem nats_round (l : List Rw) (hl : l.length ≤ 400) (kL : Nat) : ∀ n, 6 ≤ n → ∀ k s, NI l kL k s → Res (k67l0.ev ⟨pg, 41, none⟩ (rc pg n) s) (Rnd (NI l kL) (NQ l kL) k) := by
  rintro n hn k s ⟨x, h, i, cs, rfl, hik, v17, v18, v19, v4, v5, v6, hg, hcs, hk, hf, hv⟩
  have hof := @of_run n (by omega)
  have hfr : ∀ j, h.raw (h.next + j) = none := fun j => hf _ (by omega)
  have ne1 : ∀ j, (kL = h.next + j) = False := fun j => by simp; omega
  have ne2 : ∀ j, (h.next + j = kL) = False := fun j => by simp; omega
  by_cases hlt : i < l.length
  · obtain ⟨r, hr⟩ : ∃ r, l[i] = r := ⟨l[i], rfl⟩
    have hr' := hof r
    have hcall := fun hh => call_of (h := hh) (pg := pg) (f := 65) rfl rfl hr'
    simp only [rowD, natD, natC, kindsD] at hcall
    simp only [kindsD] at v4
    have hlen : cs.length = i * 7 := by rw [hcs, length_flatMap _ natC_len, List.length_take, Nat.min_eq_left (by omega)]
    have hroom : (i + 1) * 64 ≤ room := by unfold room; omega
    have hmax : i + 1 ≤ maxLen := by unfold maxLen; omega
    have happ := fun t hh news => appS_cap (t := t) (et := 82) (sz := 7) (bytes := 64) (h := hh) (m := 1) (news := news) (k := kL) (n := i) (c := l.length) (ty := 82) hlen (by omega) hroom hmax
    have hb := hiSum_bound _ hv
    have htake : l.take (i + 1) = l.take i ++ [r] := by rw [List.take_add_one, List.getElem?_eq_getElem hlt, hr]; rfl
    by_cases hval : (natF r).valid = true
    · simp [k67l0, v17, v18, v19, v4, v5, v6, hlt, hr, rowD, D.cells, D.one, hfr, ne1, hg, hcall, hval, Nat.add_assoc, zerosD, List.range_succ, apK_some, happ]
      have hbr := hi_bound r hval
      rw [List.length_take] at hb
      have hw1 : IntKind.i64.wrap ((i : Int) + 1) = (i : Int) + 1 := wrap_i64 (by omega) (by omega)
      have hw2 : IntKind.i64.wrap (hiSum (l.take i) + (natF r).hi) = hiSum (l.take (i + 1)) := by rw [htake, hiSum_snoc]; exact wrap_i64 (by omega) (by omega)
      refine ⟨k - 1, by omega, _, _, i + 1, cs ++ natC (natF r), rfl, by omega, by simp [v17], by simp [v18], by simp [hw1], by simp [v4, kindsD], by simp, by simp [hw2], by simp [natC, hval], ?_, by simp; omega, ?_, ?_⟩
      · rw [htake, hcs, List.flatMap_append]; simp
      · repeat' first | exact hf | apply Heap.Fr.bump | apply Heap.Fr.set
        all_goals (simp <;> omega)
      · rw [htake, okAll_snoc, hv, hval]; rfl
    · simp [k67l0, v17, v18, v19, v4, hlt, hr, rowD, D.cells, D.one, hfr, hcall, hval, Nat.add_assoc]
      refine .inr ⟨rfl, ?_, _, _, rfl, by simp, by simp⟩
      unfold okAll
      rw [List.all_eq_false]
      exact ⟨r, by rw [← hr]; exact List.getElem_mem hlt, hval⟩
  · simp [k67l0, v18, v19, hlt]
    have hi : i = l.length := by omega
    exact .inl ⟨rfl, x.upd 20 (D.val (Value.bool false)), h.bump 41, i, cs, rfl, by omega, by simp [v17], by simp [v18], by simp [v19], by simp [v4], by simp [v5], by simp [v6], by simp [hg], hcs, by simp; omega, hf.bump _, hv⟩
theorem rows_each (h : Heap) (n : Nat) (l : List Rw) : each (frz h (n + 1)) (l.map rowD) = some (l.map rowD, []) := each_canon h n _ (canonL_map _ (fun _ => rfl) l)
theorem natures_run (l : List Rw) {n : Nat} (hn : l.length + 10 ≤ n) : pureCall (rc pg n) 67 [rowsD l] = some (.ret (.tup [.sl false ((natsF l).1.map natD), D.int (natsF l).2])) := by
  obtain ⟨m, rfl, e⟩ := body (pg := pg) (f := 67) (args := [rowsD l]) (show 0 < n by omega) rfl rfl
  rw [e]
  have hk := fun h => call_of (h := h) (pg := pg) (f := 66) rfl rfl (@kinds_run m (by omega))
  by_cases hlen : 400 < l.length
  · have hlen' : (400 : Int) < l.length := by omega
    simp [k67, Env.v_ini, rowsD, hlen', natsF, hlen]
  · have hlen' : ¬ (400 : Int) < l.length := by omega
    have hroom : 64 * (l.length : Int) ≤ room := by unfold room; omega
    simp [k67, Env.v_ini, rowsD, hlen', natsF, hlen, hk, zerosD, hroom, ev_loop]
    refine Res.endsAfter (P := NQ l 139) (lp_rule 6 (NI l 139) (NQ l 139) (nats_round l (by omega) 139) l.length m _ (by omega)
      ⟨_, _, 0, [], rfl, by omega, by simp, by simp, by simp, by simp, by simp, by simp [hiSum], by simp, by simp, by simp, ?_, rfl⟩) ?_
    · repeat' first | exact Heap.Fr.empty | apply Heap.Fr.bump | apply Heap.Fr.set
      all_goals simp
    rintro x s (⟨rfl, x, h, i, cs, rfl, hi, _, _, _, _, v5, v6, hg, hcs, _, _, hv⟩ | ⟨rfl, hbad, x, h, rfl, v2, v3⟩)
    · obtain rfl : i = l.length := by omega
      rw [List.take_length] at v6 hcs hv
      have hl7 : cs.length = l.length * 7 := by rw [hcs, length_flatMap _ natC_len]
      have hcan : D.canonL cs = true := by rw [hcs]; exact canonL_flatMap _ natC_canon l
      have hch : chunk 7 l.length cs = l.map fun r => natD (natF r) := by rw [hcs]; exact chunk_flatMap _ (by decide) natC_len l _ rfl
      have he := each_canon h 21 cs hcan
      have htk : cs.take (l.length * 7) = cs := List.take_of_length_le (by omega)
      by_cases hs : 100000 < hiSum l
      · simp [v6, hs, hv]
      · simp [v6, v5, hs, hv, hg, htk, hch, hl7, each_canon, hcan]
    · simp [v2, v3, hbad]
end Go.Proofs.YthgnholbajpdgaaDoor
