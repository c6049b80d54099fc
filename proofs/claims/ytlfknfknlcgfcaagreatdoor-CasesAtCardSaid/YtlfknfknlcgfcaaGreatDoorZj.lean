/- Lists of lists of claims in the heap; a copy of a question, by the document. -/
import Derived.Test.YtlfknfknlcgfcaaGreatDoorZd
import Derived.Test.YtlfknfknlcgfcaaGreatDoorZd
import Derived.Test.YtlfknfknlcgfcaaGreatDoorWo1
namespace Go.Proofs.YtlfknfknlcgfcaaGreatDoor
open Go Go.Em
set_option maxRecDepth 100000
def All2 {α β : Type} (R : α → β → Prop) : List α → List β → Prop
  | [], [] => True
  | a :: l, b :: m => R a b ∧ All2 R l m
  | _, _ => False
theorem All2.len {α β : Type} {R : α → β → Prop} : ∀ {l : List α} {m : List β}, All2 R l m → l.length = m.length
  | [], [], _ => rfl
  | _ :: _, _ :: _, h => by rw [List.length_cons, List.length_cons, All2.len h.2]
  | [], _ :: _, h => h.elim
  | _ :: _, [], h => h.elim
theorem All2.mono {α β : Type} {R S : α → β → Prop} (hS : ∀ a b, R a b → S a b) : ∀ {l : List α} {m : List β}, All2 R l m → All2 S l m
  | [], [], _ => trivial
  | _ :: _, _ :: _, h => ⟨hS _ _ h.1, All2.mono hS h.2⟩
  | [], _ :: _, h => h.elim
  | _ :: _, [], h => h.elim
theorem All2.snoc {α β : Type} {R : α → β → Prop} {a : α} {b : β} (hab : R a b) : ∀ {l : List α} {m : List β}, All2 R l m → All2 R (l ++ [a]) (m ++ [b])
  | [], [], _ => ⟨hab, trivial⟩
  | _ :: _, _ :: _, h => ⟨h.1, All2.snoc hab h.2⟩
  | [], _ :: _, h => h.elim
  | _ :: _, [], h => h.elim
theorem each_all {β : Type} {f : D → Option (D × List Nat)} {R : D → β → Prop} {g : β → D} (hf : ∀ d b, R d b → ∃ ks, f d = some (g b, ks)) : ∀ {ds : List D} {bs : List β}, All2 R ds bs → ∃ ks, each f ds = some (bs.map g, ks)
  | [], [], _ => ⟨[], rfl⟩
  | d :: ds, b :: bs, h => by
    obtain ⟨k1, e1⟩ := hf d b h.1
    obtain ⟨k2, e2⟩ := each_all hf h.2
    exact ⟨k1 ++ k2, by rw [each_cons, e1, e2, eachK_some]; rfl⟩
  | [], _ :: _, h => h.elim
  | _ :: _, [], h => h.elim
theorem frz_cl {h : Heap} {k m : Nat} {c : Option Nat} {ty : TypeId} {l : List Clm} (hg : h.get k = some (.cells ty (l.flatMap clC))) (hm : m = l.length) (n : Nat) : Go.Em.frz h (n + 2) (.slr k 0 m 5 c) = some (clsD l, [k]) := by
  have hea := each_canon h n (l.flatMap clC) (cells_canon l)
  have hlen := cells_len l
  rw [frz_slr, hg, frzS_cells]
  simp only [List.drop_zero, Nat.zero_add]
  rw [if_pos ⟨by omega, by omega⟩, List.take_of_length_le (by omega), hea]
  simp only [Option.map_some, cells_chunk l m hm]; rfl
theorem AC.frzn {h : Heap} {d : D} {l : List Clm} (g : AC h d l) (n : Nat) : ∃ ks, Go.Em.frz h (n + 2) d = some (clsD l, ks) := by
  rcases g with ⟨rfl, rfl⟩ | ⟨rfl, k, rfl, g, _⟩ | ⟨k, rfl, g, _⟩
  · exact ⟨[], frz_nil ..⟩
  · exact ⟨[k], frz_cl (l := []) g rfl n⟩
  · exact ⟨[k], frz_cl g rfl n⟩
def CL (h : Heap) (d : D) (ls : List (List Clm)) : Prop := (ls = [] ∧ d = .val (.slice none 0 0)) ∨ ∃ k ds, d = .slr k 0 ls.length 1 none ∧ h.get k = some (.cells 22 ds) ∧ k < h.next ∧ All2 (fun d l => AC h d l) ds ls
theorem CL.keep {h h' : Heap} {d : D} {ls : List (List Clm)} (g : CL h d ls) (hn : h.next ≤ h'.next) (hk : ∀ k, k < h.next → h'.get k = h.get k) : CL h' d ls := by
  rcases g with g | ⟨k, ds, a, b, c, e⟩
  · exact .inl g
  · exact .inr ⟨k, ds, a, by rw [hk k c]; exact b, by omega, e.mono fun _ _ x => x.keep hn hk⟩
theorem chunk_one : ∀ (l : List D) (m : Nat), m = l.length → chunk 1 m l = l
  | [], m, h => by subst h; rfl
  | a :: l, m, h => by
    subst h
    have ih := chunk_one l l.length rfl
    simp [chunk, ih]
theorem cells_slr (k o n sz : Nat) (c : Option Nat) : (D.slr k o n sz c).cells = [.slr k o n sz c] := rfl
theorem one_slr (k o n sz : Nat) (c : Option Nat) : (D.slr k o n sz c).one = true := rfl
theorem frz_chl {h : Heap} {k m : Nat} {c : Option Nat} {ds : List D} {ls : List (List Clm)} (hg : h.get k = some (.cells 22 ds)) (hm : m = ls.length) (ha : All2 (fun d l => AC h d l) ds ls) (n : Nat) : ∃ ks, Go.Em.frz h (n + 3) (.slr k 0 m 1 c) = some (chD ls, ks) := by
  obtain ⟨ks, he⟩ := each_all (f := Go.Em.frz h (n + 2)) (g := clsD) (fun d b x => x.frzn n) ha
  have hlen := ha.len
  refine ⟨k :: ks, ?_⟩
  rw [frz_slr, hg, frzS_cells]
  simp only [List.drop_zero, Nat.zero_add, Nat.mul_one]
  rw [if_pos ⟨by omega, by omega⟩, List.take_of_length_le (by omega), he]
  simp only [Option.map_some]
  rw [chunk_one _ _ (by simp; omega)]; rfl
theorem CL.frzn {h : Heap} {d : D} {ls : List (List Clm)} (g : CL h d ls) (n : Nat) : ∃ ks, Go.Em.frz h (n + 3) d = some (chD ls, ks) := by
  rcases g with ⟨rfl, rfl⟩ | ⟨k, ds, rfl, hg, _, ha⟩
  · exact ⟨[], frz_nil ..⟩
  · exact frz_chl hg rfl ha n
theorem AC.keep2 {h h' : Heap} {d : D} {l : List Clm} (g : AC h d l) (hn : h.next ≤ h'.next) (hk : ∀ k cs, k < h.next → h.get k = some (.cells 96 cs) → h'.get k = some (.cells 96 cs)) : AC h' d l := by
  rcases g with g | ⟨e, k, a, b, c⟩ | ⟨k, a, b, c⟩
  · exact .inl g
  · exact .inr (.inl ⟨e, k, a, hk k _ c b, by omega⟩)
  · exact .inr (.inr ⟨k, a, hk k _ c b, by omega⟩)
theorem CL.keep2 {h h' : Heap} {d : D} {ls : List (List Clm)} (g : CL h d ls) (hn : h.next ≤ h'.next) (hk : ∀ k ty cs, (ty = 22 ∨ ty = 96) → k < h.next → h.get k = some (.cells ty cs) → h'.get k = some (.cells ty cs)) : CL h' d ls := by
  rcases g with g | ⟨k, ds, a, b, c, e⟩
  · exact .inl g
  · exact .inr ⟨k, ds, a, hk k 22 ds (.inl rfl) c b, by omega, e.mono fun _ _ x => x.keep2 hn fun k cs h1 h2 => hk k 96 cs (.inr rfl) h1 h2⟩
theorem CL.one {h : Heap} {d : D} {ls : List (List Clm)} (g : CL h d ls) : d.one = true := by
  rcases g with ⟨_, rfl⟩ | ⟨k, ds, rfl, _⟩ <;> rfl
theorem one_i (n : Int) : (D.int n).one = true := rfl
def CpI (q : Qst) (k : Nat) (s : St) : Prop := ∃ (x : Env 26) (h : Heap) (k2 k3 i : Nat) (d : D), s = ⟨x.l, h, []⟩ ∧ i + k = q.ch.length ∧ x.v 2 = .ptr k2 0 ∧ x.v 3 = .ptr k3 0 ∧ x.v 10 = chD q.ch ∧ x.v 11 = D.int q.ch.length ∧ x.v 12 = D.int i ∧ h.get k3 = some (.cells 83 [D.int q.b, d]) ∧ k3 < h.next ∧ k2 < h.next ∧ k2 ≠ k3 ∧ h.get k2 = some (.cells 83 [D.int 0, .val (.slice none 0 0)]) ∧ CL h d (q.ch.take i) ∧ h.Fr
set_option maxHeartbeats 8000000 in
theorem cp_round (q : Qst) (hq : q.ch.length * 24 ≤ 140737488355328) (hM : ∀ l ∈ q.ch, l.length * 40 ≤ 140737488355328) : ∀ n, 10 ≤ n → ∀ k s, CpI q k s → Res (k68l0.ev ⟨pg, 26, none⟩ (rc pg n) s) (Rnd (CpI q) (fun x s => x = .exit 0 ∧ CpI q 0 s) k) := by
  rintro n hn k s ⟨x, h, k2, k3, i, d, rfl, hik, v2, v3, v10, v11, v12, g3, l3, l2, n23, g2, hd, hf⟩
  simp only [chD] at v10
  by_cases hi : i < q.ch.length
  · obtain ⟨l, hl⟩ : ∃ l, q.ch[i] = l := ⟨_, rfl⟩
    have hlm : l.length * 40 ≤ 140737488355328 := hM l (by rw [← hl]; exact List.getElem_mem hi)
    have htk : q.ch.take (i + 1) = q.ch.take i ++ [l] := by rw [List.take_add_one, List.getElem?_eq_getElem hi, hl]; rfl
    have w1 : IntKind.i64.wrap ((i : Int) + 1) = (i : Int) + 1 := wrap_i64 (by omega) (by omega)
    have hfr : ∀ j, h.raw (h.next + j) = none := fun j => hf _ (by omega)
    have h2 := cls_cells l
    have h3 := cls_one l
    have hall : ∀ x : Clm, (D.cells (clD x)).length = 5 := fun _ => rfl
    have ne1 : ∀ j, (k3 = h.next + j) = False := fun j => by simp; omega
    have ne2 : ∀ j, (k2 = h.next + j) = False := fun j => by simp; omega
    have ner : ∀ j, (h.next + j = k3) = False := fun j => by simp; omega
    obtain ⟨T, hT⟩ : ∃ T, T = q.ch.take i := ⟨_, rfl⟩
    have hTl : T.length = i := by rw [hT, List.length_take]; omega
    rw [← hT] at hd htk
    by_cases hle : l = []
    · subst hle
      rcases hd with ⟨hT0, rfl⟩ | ⟨kk, ds, rfl, hgk, hkk, ha⟩
      · simp [k68l0, v3, v10, v11, v12, hi, hl, clsD, cells_s, cells_slr, one_slr, w1, Nat.add_assoc, g3, hfr, ne1, zerosD, apK_some, List.range_succ, apK_zero_slr, room, maxLen]
        refine ⟨k - 1, by omega, _, _, k2, k3, i + 1, .slr (h.next + 74) 0 1 1 none, rfl, by omega, by simp [v2], by simp [v3], by simp [v10, chD], by simp [v11], by simp, by simp, by simp; omega, by simp; omega, n23, by simp [g2, n23, ne2], .inr ⟨h.next + 74, [.slr (h.next + 70) 0 0 5 (some 0)], by simp [htk, hT0], by simp [ner], by simp <;> omega, ?_⟩, ?_⟩
        · rw [htk, hT0]
          exact ⟨.inr (.inl ⟨rfl, _, rfl, by simp [ner], by simp <;> omega⟩), trivial⟩
        · repeat' first | exact hf | apply Heap.Fr.bump | apply Heap.Fr.set
          all_goals (simp <;> omega)
      · have hdl := ha.len
        have ne3 : ∀ j, (h.next + j = kk) = False := fun j => by simp; omega
        have ne4 : ∀ j, (kk = h.next + j) = False := fun j => by simp; omega
        have ne5 : (k3 = kk) = False := by
          simp; rintro rfl; rw [g3] at hgk; cases hgk
        have ne6 : (k2 = kk) = False := by
          simp; rintro rfl; rw [g2] at hgk; cases hgk
        have happ := fun t hh news => appS_none (t := t) (et := 22) (sz := 1) (bytes := 24) (h := hh) (m := 1) (news := news) (k := kk) (n := T.length) (cs := ds) (by omega) (by omega) (by unfold room; omega) (by unfold maxLen; omega)
        simp [k68l0, v3, v10, v11, v12, hi, hl, clsD, cells_s, cells_slr, one_slr, w1, Nat.add_assoc, g3, hfr, ne1, zerosD, apK_some, List.range_succ, apK_zero_slr, hgk, happ, ne3, ne4, ne5]
        refine ⟨k - 1, by omega, _, _, k2, k3, i + 1, .slr (h.next + 74) 0 (T.length + 1) 1 none, rfl, by omega, by simp [v2], by simp [v3], by simp [v10, chD], by simp [v11], by simp, by simp, by simp; omega, by simp; omega, n23, by simp [g2, n23, ne2, ne6], .inr ⟨h.next + 74, ds ++ [.slr (h.next + 70) 0 0 5 (some 0)], by simp [htk], by simp [ner], by simp <;> omega, ?_⟩, ?_⟩
        · rw [htk]
          refine All2.snoc (b := []) (.inr (.inl ⟨rfl, _, rfl, by simp [ner, ne3], by simp <;> omega⟩)) (ha.mono fun d l x => x.keep2 (by simp <;> omega) fun k cs hk1 hk2 => ?_)
          have nk : k ≠ kk := by rintro rfl; rw [hgk] at hk2; cases hk2
          have nk3 : k ≠ k3 := by rintro rfl; rw [g3] at hk2; cases hk2
          have nn : ∀ j, (k = h.next + j) = False := fun j => by simp; omega
          simp [nk, nk3, nn, hk2]
        · repeat' first | exact hf | apply Heap.Fr.bump | apply Heap.Fr.set
          all_goals (simp <;> omega)
    · have hlp : l.length ≠ 0 := fun h => hle (List.eq_nil_of_length_eq_zero h)
      have z := fun t hh news k ty cs => appS_zero5 (t := t) (h := hh) (m := l.length) (news := news) (k := k) (ty := ty) (cs := cs) (by omega) (by unfold room; omega) (by unfold maxLen; omega)
      rcases hd with ⟨hT0, rfl⟩ | ⟨kk, ds, rfl, hgk, hkk, ha⟩
      · have r1 : 24 ≤ room ∧ 1 ≤ maxLen := ⟨by unfold room; omega, by unfold maxLen; omega⟩
        simp [k68l0, v3, v10, v11, v12, hi, hl, clsD, cells_s, cells_slr, one_slr, w1, Nat.add_assoc, g3, hfr, ne1, zerosD, apK_some, List.range_succ, hall, h2, h3, hlp, z, r1]
        refine ⟨k - 1, by omega, _, _, k2, k3, i + 1, .slr (h.next + 74) 0 1 1 none, rfl, by omega, by simp [v2], by simp [v3], by simp [v10, chD], by simp [v11], by simp, by simp, by simp; omega, by simp; omega, n23, by simp [g2, n23, ne2], .inr ⟨h.next + 74, [.slr (h.next + 72) 0 l.length 5 none], by simp [htk, hT0], by simp [ner], by simp <;> omega, ?_⟩, ?_⟩
        · rw [htk, hT0]
          exact ⟨.inr (.inr ⟨_, rfl, by simp [ner], by simp <;> omega⟩), trivial⟩
        · repeat' first | exact hf | apply Heap.Fr.bump | apply Heap.Fr.set
          all_goals (simp <;> omega)
      · have hdl := ha.len
        have ne3 : ∀ j, (h.next + j = kk) = False := fun j => by simp; omega
        have ne4 : ∀ j, (kk = h.next + j) = False := fun j => by simp; omega
        have ne5 : (k3 = kk) = False := by
          simp; rintro rfl; rw [g3] at hgk; cases hgk
        have ne6 : (k2 = kk) = False := by
          simp; rintro rfl; rw [g2] at hgk; cases hgk
        have happ := fun t hh news => appS_none (t := t) (et := 22) (sz := 1) (bytes := 24) (h := hh) (m := 1) (news := news) (k := kk) (n := T.length) (cs := ds) (by omega) (by omega) (by unfold room; omega) (by unfold maxLen; omega)
        simp [k68l0, v3, v10, v11, v12, hi, hl, clsD, cells_s, cells_slr, one_slr, w1, Nat.add_assoc, g3, hfr, ne1, zerosD, apK_some, List.range_succ, hall, h2, h3, hlp, z, hgk, happ, ne3, ne4, ne5]
        refine ⟨k - 1, by omega, _, _, k2, k3, i + 1, .slr (h.next + 74) 0 (T.length + 1) 1 none, rfl, by omega, by simp [v2], by simp [v3], by simp [v10, chD], by simp [v11], by simp, by simp, by simp; omega, by simp; omega, n23, by simp [g2, n23, ne2, ne6], .inr ⟨h.next + 74, ds ++ [.slr (h.next + 72) 0 l.length 5 none], by simp [htk], by simp [ner], by simp <;> omega, ?_⟩, ?_⟩
        · rw [htk]
          refine All2.snoc (b := l) (.inr (.inr ⟨_, rfl, by simp [ner, ne3], by simp <;> omega⟩)) (ha.mono fun d l x => x.keep2 (by simp <;> omega) fun k cs hk1 hk2 => ?_)
          have nk : k ≠ kk := by rintro rfl; rw [hgk] at hk2; cases hk2
          have nk3 : k ≠ k3 := by rintro rfl; rw [g3] at hk2; cases hk2
          have nn : ∀ j, (k = h.next + j) = False := fun j => by simp; omega
          simp [nk, nk3, nn, hk2]
        · repeat' first | exact hf | apply Heap.Fr.bump | apply Heap.Fr.set
          all_goals (simp <;> omega)
  · simp [k68l0, v11, v12, hi]
    exact ⟨_, _, k2, k3, i, d, rfl, by omega, by simp [v2], by simp [v3], by simp [v10, chD], by simp [v11], by simp [v12], by simp [g3], by simp; omega, by simp; omega, n23, by simp [g2], hd.keep (by simp) (by simp), hf.bump _⟩
set_option maxHeartbeats 4000000 in
theorem copied_run (q : Qst) (hq : q.ch.length * 24 ≤ 140737488355328) (hM : ∀ l ∈ q.ch, l.length * 40 ≤ 140737488355328) {n : Nat} (hn : q.ch.length + 20 ≤ n) : pureCall (rc pg n) 68 [qD q] = some (.ret (qD q)) := by
  obtain ⟨m, rfl, e⟩ := body (pg := pg) (f := 68) (args := [qD q]) (show 0 < n by omega) rfl rfl
  rw [e]
  simp [k68, Env.v_ini, qD, qC, chD, D.cells, D.one, ev_loop]
  refine Res.endsAfter (lp_rule 10 (CpI q) _ (cp_round q hq hM) q.ch.length m _ (by omega) ⟨_, _, 2, _, 0, .val (.slice none 0 0), rfl, by omega, by simp, by simp; rfl, by simp [chD], by simp, by simp, by simp, by simp, by simp, by simp, by simp, .inl ⟨by simp, rfl⟩, ?_⟩) ?_
  · repeat' first | exact Heap.Fr.empty | apply Heap.Fr.bump | apply Heap.Fr.set
    all_goals simp
  · rintro y s ⟨rfl, x, h, k2, k3, i, d, rfl, hi, v2, v3, _, _, _, g3, l3, l2, n23, g2, hd, hf⟩
    have hil : i = q.ch.length := by omega
    subst hil
    rw [List.take_length] at hd
    have ho := hd.one
    obtain ⟨ks, hz⟩ := CL.frzn (hd.keep2 (h' := ((h.bump 26).set k2 (some (.cells 83 [D.int q.b, d])))) (by simp) (fun j ty cs ht hj hg => by
      have : j ≠ k2 := by
        rintro rfl; rw [g2] at hg
        rcases ht with rfl | rfl <;> cases hg
      simp [this, hg])) 20
    simp only [chD] at hz
    simp [v2, v3, g2, g3, cells_a, one_i, ho, hz]
end Go.Proofs.YtlfknfknlcgfcaaGreatDoor
/- A world without some sources, by the document. -/
namespace Go.Proofs.YtlfknfknlcgfcaaGreatDoor
open Go Go.Em
set_option maxRecDepth 100000
set_option maxHeartbeats 4000000 in
theorem out_round (l : List Clm) (bl : List Int) (hl : l.length * 40 ≤ 140737488355328) (hb : bl.length ≤ 20000000000000) : ∀ n, bl.length + 10 ≤ n → ∀ k s, OI l bl k s → Res (k67l0.ev ⟨pg, 25, none⟩ (rc pg n) s) (Rnd (OI l bl) (fun x s => x = .exit 0 ∧ OI l bl 0 s) k) := by
  rintro n hn k s ⟨x, h, i, d, rfl, hik, v8, v9, v10, v1, v5, hd, hf⟩
  simp only [clsD] at v8
  by_cases hi : i < l.length
  · obtain ⟨c, hc⟩ : ∃ c, l[i] = c := ⟨_, rfl⟩
    have htk : l.take (i + 1) = l.take i ++ [c] := by rw [List.take_add_one, List.getElem?_eq_getElem hi, hc]; rfl
    have hsn := outF_snoc (l.take i) bl c
    rw [← htk] at hsn
    have hle := outF_le (l.take i) bl
    rw [List.length_take] at hle
    obtain ⟨O, hO⟩ : ∃ O, O = outF (l.take i) bl := ⟨_, rfl⟩
    rw [← hO] at hsn hle hd
    have w1 : IntKind.i64.wrap ((i : Int) + 1) = (i : Int) + 1 := wrap_i64 (by omega) (by omega)
    have hfr : ∀ j, h.raw (h.next + j) = none := fun j => hf _ (by omega)
    have hh := fun h => call_of (h := h) (pg := pg) (f := 51) (args := [intsD bl, D.int c.by_]) rfl (by simp [intsD, ints_canonL]) (@has_run bl hb c.by_ n (by omega))
    simp only [intsD] at hh v1
    cases he : hasI bl c.by_ with
    | true =>
      rw [he] at hh hsn
      simp [k67l0, v8, v9, v10, v1, hi, hc, clD, clC, D.cells, D.one, hfr, Nat.add_assoc, w1, hh]
      refine ⟨k - 1, by omega, _, _, i + 1, d, rfl, by omega, by simp [v8, clsD], by simp [v9], by simp, by simp [v1, intsD], by simp [v5], ?_, ?_⟩
      · rw [hsn, if_pos rfl]
        exact hd.keep (by simp <;> omega) fun q hq => by simp [show q ≠ h.next + 32 by omega]
      · repeat' first | exact hf | apply Heap.Fr.bump | apply Heap.Fr.set
        all_goals (simp <;> omega)
    | false =>
      rw [he] at hh hsn
      rw [if_neg (by simp)] at hsn
      have hO40 : (O.length + 1) * 40 ≤ 140737488355328 := by omega
      have hcell : (O.flatMap clC) ++ clC c = (O ++ [c]).flatMap clC := by simp
      rcases hd with ⟨hO0, rfl⟩ | ⟨kk, rfl, hg, hkk⟩
      · subst hO0
        simp [k67l0, v8, v9, v10, v1, v5, hi, hc, clD, clC, D.cells, D.one, hfr, Nat.add_assoc, w1, hh, zerosD, apK_some, room, maxLen, List.range_succ]
        refine ⟨k - 1, by omega, _, _, i + 1, .slr (h.next + 97) 0 1 5 none, rfl, by omega, by simp [v8, clsD], by simp [v9], by simp, by simp [v1, intsD], by simp, .inr ⟨h.next + 97, by simp [hsn], by simp [hsn, clC], by simp <;> omega⟩, ?_⟩
        repeat' first | exact hf | apply Heap.Fr.bump | apply Heap.Fr.set
        all_goals (simp <;> omega)
      · have ne1 : ∀ j, (h.next + j = kk) = False := fun j => by simp; omega
        have ne2 : ∀ j, (kk = h.next + j) = False := fun j => by simp; omega
        have happ := fun t hh news => appS_none (t := t) (et := 96) (sz := 5) (bytes := 40) (h := hh) (m := 1) (news := news) (k := kk) (n := O.length) (cs := O.flatMap clC) (cells_len O) (by omega) (by unfold room; omega) (by unfold maxLen; omega)
        simp [k67l0, v8, v9, v10, v1, v5, hi, hc, clD, clC, D.cells, D.one, hfr, Nat.add_assoc, w1, hh, zerosD, apK_some, List.range_succ, hg, ne1, ne2, happ]
        refine ⟨k - 1, by omega, _, _, i + 1, .slr (h.next + 97) 0 (O.length + 1) 5 none, rfl, by omega, by simp [v8, clsD], by simp [v9], by simp, by simp [v1, intsD], by simp, .inr ⟨h.next + 97, by simp [hsn], by simp [hsn, clC], by simp <;> omega⟩, ?_⟩
        repeat' first | exact hf | apply Heap.Fr.bump | apply Heap.Fr.set
        all_goals (simp <;> omega)
  · simp [k67l0, v9, v10, hi]
    exact ⟨_, _, i, d, rfl, by omega, by simp [v8, clsD], by simp [v9], by simp [v10], by simp [v1], by simp [v5], hd.keep (by simp) (by simp), hf.bump _⟩
theorem rwithout_run (l : List Clm) (bl : List Int) (hl : l.length * 40 ≤ 140737488355328) (hb : bl.length ≤ 20000000000000) {n : Nat} (hn : l.length + bl.length + 20 ≤ n) : pureCall (rc pg n) 67 [clsD l, intsD bl] = some (.ret (clsD (outF l bl))) := by
  obtain ⟨m, rfl, e⟩ := body (pg := pg) (f := 67) (args := [clsD l, intsD bl]) (show 0 < n by omega) rfl rfl
  rw [e]
  simp [k67, Env.v_ini, clsD, ev_loop]
  refine Res.endsAfter (lp_rule (bl.length + 10) (OI l bl) _ (out_round l bl hl hb) l.length m _ (by omega) ⟨_, _, 0, .val (.slice none 0 0), rfl, by omega, by simp [clsD], by simp, by simp, by simp [Env.v_ini], by simp, .inl ⟨by simp [outF], rfl⟩, ?_⟩) ?_
  · repeat' first | exact Heap.Fr.empty | apply Heap.Fr.bump | apply Heap.Fr.set
  · rintro x s ⟨rfl, x, h, i, d, rfl, hi, v8, v9, v10, v1, v5, hd, hf⟩
    have hil : i = l.length := by omega
    subst hil
    rw [List.take_length] at hd
    obtain ⟨ks, hz⟩ := GC.frz (hd.keep (h' := h.bump 25) (by simp) (by simp))
    simp only [clsD] at hz
    simp [v5]
    exact ⟨_, hz⟩
def outQ (l : List Qst) (bl : List Int) : List Qst := l.filter fun q => !hasI bl q.b
def outW (w : Wld) (bl : List Int) : Wld := ⟨outF w.cl bl, outQ w.qs bl⟩
theorem outQ_snoc (l : List Qst) (bl : List Int) (q : Qst) : outQ (l ++ [q]) bl = if hasI bl q.b = true then outQ l bl else outQ l bl ++ [q] := by
  unfold outQ
  rw [List.filter_append]
  cases h : hasI bl q.b <;> simp [h]
theorem outQ_le (l : List Qst) (bl : List Int) : (outQ l bl).length ≤ l.length := List.length_filter_le _ _
theorem qs_len (l : List Qst) : (l.flatMap qC).length = l.length * 2 := length_flatMap qC (fun _ => rfl) l
theorem qs_cellsC (l : List Qst) : D.canonL (l.flatMap qC) = true := canonL_flatMap qC (fun c => by simp [qC, ch_canon1]) l
theorem qs_chunk (l : List Qst) (n : Nat) (hn : n = l.length) : chunk 2 n (l.flatMap qC) = l.map qD := chunk_flatMap qC (by decide) (fun _ => rfl) l n hn
def GQ (h : Heap) (d : D) (l : List Qst) : Prop := (l = [] ∧ d = .val (.slice none 0 0)) ∨ ∃ k, d = .slr k 0 l.length 2 none ∧ h.get k = some (.cells 83 (l.flatMap qC)) ∧ k < h.next
theorem GQ.keep {h h' : Heap} {d : D} {l : List Qst} (g : GQ h d l) (hn : h.next ≤ h'.next) (hk : ∀ k, k < h.next → h'.get k = h.get k) : GQ h' d l := by
  rcases g with g | ⟨k, a, b, c⟩
  · exact .inl g
  · exact .inr ⟨k, a, by rw [hk k c]; exact b, by omega⟩
theorem GQ.keep2 {h h' : Heap} {d : D} {l : List Qst} (g : GQ h d l) (hn : h.next ≤ h'.next) (hk : ∀ k cs, k < h.next → h.get k = some (.cells 83 cs) → h'.get k = some (.cells 83 cs)) : GQ h' d l := by
  rcases g with g | ⟨k, a, b, c⟩
  · exact .inl g
  · exact .inr ⟨k, a, hk k _ c b, by omega⟩
theorem GQ.frzn {h : Heap} {d : D} {l : List Qst} (g : GQ h d l) (n : Nat) : ∃ ks, Go.Em.frz h (n + 2) d = some (qsD l, ks) := by
  rcases g with ⟨rfl, rfl⟩ | ⟨k, rfl, hg, _⟩
  · exact ⟨[], frz_nil ..⟩
  · have hea := each_canon h n (l.flatMap qC) (qs_cellsC l)
    have hlen := qs_len l
    refine ⟨[k], ?_⟩
    rw [frz_slr, hg, frzS_cells]
    simp only [List.drop_zero, Nat.zero_add]
    rw [if_pos ⟨by omega, by omega⟩, List.take_of_length_le (by omega), hea]
    simp only [Option.map_some, qs_chunk l _ rfl]; rfl
theorem GQ.one {h : Heap} {d : D} {l : List Qst} (g : GQ h d l) : d.one = true := by
  rcases g with ⟨_, rfl⟩ | ⟨k, rfl, _⟩ <;> rfl
theorem one_v (v : Value) : (D.val v).one = true := rfl
def RwI (w : Wld) (bl : List Int) (k : Nat) (s : St) : Prop := ∃ (x : Env 34) (h : Heap) (k4 k5 i : Nat) (d : D), s = ⟨x.l, h, []⟩ ∧ i + k = w.qs.length ∧ x.v 1 = intsD bl ∧ x.v 4 = .ptr k4 0 ∧ x.v 5 = .ptr k5 0 ∧ x.v 14 = qsD w.qs ∧ x.v 15 = D.int w.qs.length ∧ x.v 16 = D.int i ∧ h.get k5 = some (.cells 25 [clsD (outF w.cl bl), d]) ∧ k5 < h.next ∧ k4 < h.next ∧ k4 ≠ k5 ∧ h.get k4 = some (.cells 25 [.val (.slice none 0 0), .val (.slice none 0 0)]) ∧ GQ h d (outQ (w.qs.take i) bl) ∧ h.Fr
structure WR (w : Wld) : Prop where
  cl : w.cl.length * 40 ≤ 140737488355328
  qs : w.qs.length * 32 ≤ 140737488355328
  ch : ∀ q ∈ w.qs, q.ch.length * 24 ≤ 140737488355328 ∧ ∀ l ∈ q.ch, l.length * 40 ≤ 140737488355328
set_option maxHeartbeats 8000000 in
theorem rw_round (w : Wld) (bl : List Int) (hw : WR w) (hb : bl.length ≤ 20000000000000) : ∀ n, 30000000000000 ≤ n → ∀ k s, RwI w bl k s → Res (k20l0.ev ⟨pg, 34, none⟩ (rc pg n) s) (Rnd (RwI w bl) (fun x s => x = .exit 0 ∧ RwI w bl 0 s) k) := by
  rintro n hn k s ⟨x, h, k4, k5, i, d, rfl, hik, v1, v4, v5, v14, v15, v16, g5, l5, l4, n45, g4, hd, hf⟩
  have hqs := hw.qs
  simp only [qsD] at v14
  by_cases hi : i < w.qs.length
  · obtain ⟨q, hq⟩ : ∃ q, w.qs[i] = q := ⟨_, rfl⟩
    obtain ⟨hc1, hc2⟩ := hw.ch q (by rw [← hq]; exact List.getElem_mem hi)
    have htk : w.qs.take (i + 1) = w.qs.take i ++ [q] := by rw [List.take_add_one, List.getElem?_eq_getElem hi, hq]; rfl
    have hsn := outQ_snoc (w.qs.take i) bl q
    rw [← htk] at hsn
    have hle := outQ_le (w.qs.take i) bl
    rw [List.length_take] at hle
    obtain ⟨O, hO⟩ : ∃ O, O = outQ (w.qs.take i) bl := ⟨_, rfl⟩
    rw [← hO] at hsn hle hd
    have w1 : IntKind.i64.wrap ((i : Int) + 1) = (i : Int) + 1 := wrap_i64 (by omega) (by omega)
    have hfr : ∀ j, h.raw (h.next + j) = none := fun j => hf _ (by omega)
    have ne1 : ∀ j, (k5 = h.next + j) = False := fun j => by simp; omega
    have ne2 : ∀ j, (k4 = h.next + j) = False := fun j => by simp; omega
    have ner : ∀ j, (h.next + j = k5) = False := fun j => by simp; omega
    have hh := fun h => call_of (h := h) (pg := pg) (f := 51) (args := [intsD bl, D.int q.b]) rfl (by simp [intsD, ints_canonL]) (@has_run bl hb q.b n (by omega))
    have r68 := @copied_run q hc1 hc2 n (by omega)
    have s68 : pg.sh 68 = false := rfl
    have hcan : D.canonL [qD q] = true := by simp [q_canon]
    simp only [intsD] at hh v1
    simp only [qD, qC, chD] at r68 hcan
    cases he : hasI bl q.b with
    | true =>
      rw [he] at hh hsn
      simp [k20l0, v1, v14, v15, v16, hi, hq, qD, qC, cells_a, one_i, one_s, chD, hfr, Nat.add_assoc, w1, hh]
      refine ⟨k - 1, by omega, _, _, k4, k5, i + 1, d, rfl, by omega, by simp [v1, intsD], by simp [v4], by simp [v5], by simp [v14, qsD], by simp [v15], by simp, by simp [ne1, g5], by simp; omega, by simp; omega, n45, by simp [ne2, g4], ?_, ?_⟩
      · rw [hsn, if_pos rfl]
        exact hd.keep (by simp <;> omega) fun q hq => by
          have nn : ∀ j, (q = h.next + j) = False := fun j => by simp; omega
          simp [nn]
      · repeat' first | exact hf | apply Heap.Fr.bump | apply Heap.Fr.set
        all_goals (simp <;> omega)
    | false =>
      rw [he] at hh hsn
      rw [if_neg (by simp)] at hsn
      rcases hd with ⟨hO0, rfl⟩ | ⟨kk, rfl, hgk, hkk⟩
      · subst hO0
        have r1 : 32 ≤ room ∧ 1 ≤ maxLen := ⟨by unfold room; omega, by unfold maxLen; omega⟩
        simp [k20l0, v1, v5, v14, v15, v16, hi, hq, qD, qC, cells_a, cells_slr, one_slr, one_i, one_s, chD, hfr, Nat.add_assoc, w1, hh, g5, ne1, dcore_f, s68, hcan, r68, zerosD, apK_some, List.range_succ, r1]
        refine ⟨k - 1, by omega, _, _, k4, k5, i + 1, .slr (h.next + 132) 0 1 2 none, rfl, by omega, by simp [v1, intsD], by simp [v4], by simp [v5], by simp [v14, qsD], by simp [v15], by simp, by simp, by simp; omega, by simp; omega, n45, by simp [g4, n45, ne2], .inr ⟨h.next + 132, by simp [hsn], by simp [hsn, ner, qC, chD], by simp <;> omega⟩, ?_⟩
        repeat' first | exact hf | apply Heap.Fr.bump | apply Heap.Fr.set
        all_goals (simp <;> omega)
      · have ne3 : ∀ j, (h.next + j = kk) = False := fun j => by simp; omega
        have ne4 : ∀ j, (kk = h.next + j) = False := fun j => by simp; omega
        have ne5 : (k5 = kk) = False := by
          simp; rintro rfl; rw [g5] at hgk; cases hgk
        have ne6 : (k4 = kk) = False := by
          simp; rintro rfl; rw [g4] at hgk; cases hgk
        have happ := fun t hh news => appS_none (t := t) (et := 83) (sz := 2) (bytes := 32) (h := hh) (m := 1) (news := news) (k := kk) (n := O.length) (cs := O.flatMap qC) (qs_len O) (by omega) (by unfold room; omega) (by unfold maxLen; omega)
        simp [k20l0, v1, v5, v14, v15, v16, hi, hq, qD, qC, cells_a, cells_slr, one_slr, one_i, one_s, chD, hfr, Nat.add_assoc, w1, hh, g5, ne1, dcore_f, s68, hcan, r68, zerosD, apK_some, List.range_succ, hgk, happ, ne3, ne4, ne5]
        refine ⟨k - 1, by omega, _, _, k4, k5, i + 1, .slr (h.next + 132) 0 (O.length + 1) 2 none, rfl, by omega, by simp [v1, intsD], by simp [v4], by simp [v5], by simp [v14, qsD], by simp [v15], by simp, by simp, by simp; omega, by simp; omega, n45, by simp [g4, n45, ne2, ne6], .inr ⟨h.next + 132, by simp [hsn], by simp [hsn, ner, qC, chD], by simp <;> omega⟩, ?_⟩
        repeat' first | exact hf | apply Heap.Fr.bump | apply Heap.Fr.set
        all_goals (simp <;> omega)
  · simp [k20l0, v15, v16, hi]
    exact ⟨_, _, k4, k5, i, d, rfl, by omega, by simp [v1], by simp [v4], by simp [v5], by simp [v14, qsD], by simp [v15], by simp [v16], by simp [g5], by simp; omega, by simp; omega, n45, by simp [g4], hd.keep (by simp) (by simp), hf.bump _⟩
set_option maxHeartbeats 8000000 in
theorem rwo_run (w : Wld) (bl : List Int) (hw : WR w) (hb : bl.length ≤ 20000000000000) {n : Nat} (hn : 90000000000000 ≤ n) : pureCall (rc pg n) 20 [wD w, intsD bl] = some (.ret (wD (outW w bl))) := by
  obtain ⟨m, rfl, e⟩ := body (pg := pg) (f := 20) (args := [wD w, intsD bl]) (show 0 < n by omega) rfl rfl
  rw [e]
  have hcl := hw.cl
  have hqs := hw.qs
  have r67 := fun h => call_of (h := h) (pg := pg) (f := 67) rfl (two_canon w.cl bl) (@rwithout_run w.cl bl hcl hb m (by omega))
  obtain ⟨O, hO⟩ : ∃ O, O = outF w.cl bl := ⟨_, rfl⟩
  rw [← hO] at r67
  simp only [clsD, intsD] at r67
  simp [k20, Env.v_ini, wD, clsD, qsD, intsD, cells_a, cells_s, one_s, one_v, r67, ev_loop]
  refine Res.endsAfter (lp_rule 30000000000000 (RwI w bl) _ (rw_round w bl hw hb) w.qs.length m _ (by omega) ⟨_, _, 4, _, 0, .val (.slice none 0 0), rfl, by omega, by simp [Env.v_ini, intsD], by simp, by simp; rfl, by simp [qsD], by simp, by simp, by simp [clsD, ← hO], by simp, by simp, by simp, by simp, .inl ⟨by simp [outQ], rfl⟩, ?_⟩) ?_
  · repeat' first | exact Heap.Fr.empty | apply Heap.Fr.bump | apply Heap.Fr.set
    all_goals simp
  · rintro y s ⟨rfl, x, h, k4, k5, i, d, rfl, hi, v1, v4, v5, _, _, _, g5, l5, l4, n45, g4, hd, hf⟩
    have hil : i = w.qs.length := by omega
    subst hil
    rw [List.take_length] at hd
    have ho := hd.one
    rw [← hO] at g5
    obtain ⟨ks, hz⟩ := GQ.frzn (hd.keep2 (h' := ((h.bump 34).set k4 (some (.cells 25 [clsD O, d])))) (by simp) (fun j cs hj hg => by
      have : j ≠ k4 := by rintro rfl; rw [g4] at hg; cases hg
      simp [this, hg])) 21
    have hx := fun H d => each_canon H d _ (canonL_map clD cl_canon O)
    simp only [clsD, qsD] at hz g5
    simp [v4, v5, g4, g5, cells_a, one_s, ho, outW, ← hO, hz, hx]
end Go.Proofs.YtlfknfknlcgfcaaGreatDoor
