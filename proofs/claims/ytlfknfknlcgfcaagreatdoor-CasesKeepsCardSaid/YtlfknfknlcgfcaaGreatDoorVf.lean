/- All choices of a world, by the document: the innermost loop. -/
import Derived.Test.YtlfknfknlcgfcaaGreatDoorVd
namespace Go.Proofs.YtlfknfknlcgfcaaGreatDoor
open Go Go.Em
set_option maxRecDepth 100000
def A2 {α β : Type} (R : α → β → Prop) : List α → List β → Prop
  | [], [] => True
  | a :: l, b :: m => R a b ∧ A2 R l m
  | _, _ => False
theorem A2.len {α β : Type} {R : α → β → Prop} : ∀ {l : List α} {m : List β}, A2 R l m → l.length = m.length
  | [], [], _ => rfl
  | _ :: _, _ :: _, h => by rw [List.length_cons, List.length_cons, A2.len h.2]
  | [], _ :: _, h => h.elim
  | _ :: _, [], h => h.elim
theorem A2.mono {α β : Type} {R S : α → β → Prop} (hS : ∀ a b, R a b → S a b) : ∀ {l : List α} {m : List β}, A2 R l m → A2 S l m
  | [], [], _ => trivial
  | _ :: _, _ :: _, h => ⟨hS _ _ h.1, A2.mono hS h.2⟩
  | [], _ :: _, h => h.elim
  | _ :: _, [], h => h.elim
theorem A2.snoc {α β : Type} {R : α → β → Prop} {a : α} {b : β} (hab : R a b) : ∀ {l : List α} {m : List β}, A2 R l m → A2 R (l ++ [a]) (m ++ [b])
  | [], [], _ => ⟨hab, trivial⟩
  | _ :: _, _ :: _, h => ⟨h.1, A2.snoc hab h.2⟩
  | [], _ :: _, h => h.elim
  | _ :: _, [], h => h.elim
theorem A2.at {α β : Type} {R : α → β → Prop} : ∀ {l : List α} {m : List β} {i : Nat} (_ : A2 R l m) (hl : i < l.length) (hm : i < m.length), R l[i] m[i]
  | _ :: _, _ :: _, 0, h, _, _ => h.1
  | _ :: _, _ :: _, i + 1, h, hl, hm => by
    simp only [List.getElem_cons_succ]
    exact A2.at h.2 (by simpa using hl) (by simpa using hm)
  | [], _, _, _, hl, _ => by simp at hl
  | _ :: _, [], _, h, _, _ => h.elim
def GN (h : Heap) (d : D) (l : List Int) : Prop := (l = [] ∧ d = .val (.slice none 0 0)) ∨ (l ≠ [] ∧ ∃ k, d = .slr k 0 l.length 1 none ∧ h.get k = some (.cells 3 (l.map D.int)) ∧ k < h.next)
theorem GN.keep2 {h h' : Heap} {d : D} {l : List Int} (g : GN h d l) (hn : h.next ≤ h'.next) (hk : ∀ k cs, k < h.next → h.get k = some (.cells 3 cs) → h'.get k = some (.cells 3 cs)) : GN h' d l := by
  rcases g with g | ⟨h0, k, a, b, c⟩
  · exact .inl g
  · exact .inr ⟨h0, k, a, hk k _ c b, by omega⟩
theorem GN.gl {h : Heap} {d : D} {l : List Int} (g : GN h d l) : GL h d l := by
  rcases g with g | ⟨_, k, a, b, c⟩
  · exact .inl g
  · exact .inr ⟨k, a, b, c⟩
def LN (b : Nat) (h : Heap) (d : D) (ls : List (List Int)) : Prop := (ls = [] ∧ d = .val (.slice none 0 0)) ∨ ∃ k ds, d = .slr k 0 ls.length 1 none ∧ h.get k = some (.cells 26 ds) ∧ b ≤ k ∧ k < h.next ∧ A2 (GN h) ds ls
def rowF (xl : List Int) (m : Nat) : List (List Int) := (List.range m).map fun (c : Nat) => xl ++ [(c : Int)]
theorem row_succ (xl : List Int) (m : Nat) : rowF xl (m + 1) = rowF xl m ++ [xl ++ [(m : Int)]] := by unfold rowF; rw [List.range_succ, List.map_append]; rfl
theorem row_len (xl : List Int) (m : Nat) : (rowF xl m).length = m := by unfold rowF; simp
theorem appS_zero1 {t : Nat} {h : Heap} {m : Nat} {news cs : List D} {k : Nat} {ty : TypeId} (h0 : 0 < m) (hr : m * 8 ≤ room) (hm : m ≤ maxLen) :
    appS t 3 1 8 h m news k 0 0 1 (some 0) (some (.cells ty cs)) = (h.alloc t (.cells 3 news)).map fun h => (.slr t 0 m 1 none, h) := by
  unfold appS
  simp [hr, hm, show ¬ m = 0 by omega]
def N0I (h0 : Heap) (x0 : Env 44) (m : Nat) (xl : List Int) (dx : D) (X : List (List Int)) (k : Nat) (s : St) : Prop := ∃ (x : Env 44) (h : Heap) (c : Nat) (dn : D), s = ⟨x.l, h, []⟩ ∧ c + k = m ∧ (∀ j, j = 3 ∨ j = 12 ∨ j = 13 ∨ j = 14 ∨ j = 18 ∨ j = 19 ∨ j = 20 ∨ j = 5 → x.v j = x0.v j) ∧ x.v 6 = dn ∧ LN h0.next h dn (X ++ rowF xl c) ∧ x.v 8 = dx ∧ x.v 26 = D.int m ∧ x.v 27 = D.int c ∧ h0.Gr h ∧ h.Fr
set_option maxHeartbeats 16000000 in
theorem n0_round (h0 : Heap) (x0 : Env 44) (m : Nat) (xl : List Int) (dx : D) (X : List (List Int)) (hx : GN h0 dx xl) (hm : m ≤ 60) (hxl : xl.length ≤ 1000) (hX : X.length ≤ 1000000) : ∀ n, 10 ≤ n → ∀ k s, N0I h0 x0 m xl dx X k s → Res (k114l0.ev ⟨pg, 44, none⟩ (rc pg n) s) (Rnd (N0I h0 x0 m xl dx X) (fun x s => x = .exit 4 ∧ N0I h0 x0 m xl dx X 0 s) k) := by
  rintro n hn k s ⟨x, h, c, dn, rfl, hck, vs, v6, hdn, v8, v26, v27, gr, hf⟩
  by_cases hc : c < m
  · have w1 : IntKind.i64.wrap ((c : Int) + 1) = (c : Int) + 1 := wrap_i64 (by omega) (by omega)
    have hfr : ∀ j, h.raw (h.next + j) = none := fun j => hf _ (by omega)
    have hrg : X ++ rowF xl (c + 1) = (X ++ rowF xl c) ++ [xl ++ [(c : Int)]] := by rw [row_succ, List.append_assoc]
    obtain ⟨Y, hY⟩ : ∃ Y, Y = X ++ rowF xl c := ⟨_, rfl⟩
    have hYl : Y.length ≤ 1000060 := by rw [hY, List.length_append, row_len]; omega
    rw [← hY] at hdn hrg
    have hn0 := gr.next
    have r1 : 8 ≤ room ∧ 1 ≤ maxLen ∧ 24 ≤ room := ⟨by unfold room; omega, by unfold maxLen; omega, by unfold room; omega⟩
    have appS0 : ∀ (t : Nat) (hh : Heap) (news cs : List D) (k : Nat) (ty : TypeId), appS t 3 1 8 hh 1 news k 0 0 1 (some 0) (some (.cells ty cs)) = (hh.alloc t (.cells 3 news)).map fun h => (.slr t 0 1 1 none, h) := fun t hh news cs k ty => appS_zero1 (by omega) (by unfold room; omega) (by unfold maxLen; omega)
    rcases hx with ⟨hx0, rfl⟩ | ⟨hxn, kx, rfl, hgx0, hkx⟩
    · subst hx0
      rcases hdn with ⟨hY0, rfl⟩ | ⟨kn, ds, rfl, hgn, hbn, hkn, ha⟩
      · subst hY0
        simp [k114l0, v6, v8, v26, v27, hc, D.cells, D.one, D.wk, hfr, Nat.add_assoc, w1, zerosD, apK_some, List.range_succ, r1, apK_zero_slr, appS]
        refine ⟨k - 1, by omega, _, _, c + 1, .slr (h.next + 126) 0 1 1 none, rfl, by omega, fun j hj => ?_, by simp, .inr ⟨h.next + 126, [.slr (h.next + 124) 0 1 1 none], by rw [hrg]; simp, by simp, by omega, by simp <;> omega, ?_⟩, by simp [v8], by simp [v26], by simp, ⟨by simp; omega, fun q hq => ?_, fun _ => ?_⟩, ?_⟩
        · rcases hj with rfl | rfl | rfl | rfl | rfl | rfl | rfl | rfl <;> simp [vs _ (.inl rfl), vs _ (.inr (.inl rfl)), vs _ (.inr (.inr (.inl rfl))), vs _ (.inr (.inr (.inr (.inl rfl)))), vs _ (.inr (.inr (.inr (.inr (.inl rfl))))), vs _ (.inr (.inr (.inr (.inr (.inr (.inl rfl)))))), vs _ (.inr (.inr (.inr (.inr (.inr (.inr (.inl rfl))))))), vs _ (.inr (.inr (.inr (.inr (.inr (.inr (.inr rfl))))))) ]
        · rw [hrg]
          exact ⟨.inr ⟨by simp, h.next + 124, by simp, by simp, by simp <;> omega⟩, trivial⟩
        · have nn : ∀ j, (q = h.next + j) = False := fun j => by simp; omega
          simp [nn, gr.raw q hq]
        · repeat' first | exact hf | apply Heap.Fr.bump | apply Heap.Fr.set
          all_goals first | omega | (simp <;> omega)
        · repeat' first | exact hf | apply Heap.Fr.bump | apply Heap.Fr.set
          all_goals first | omega | (simp <;> omega)
      · have hdl := ha.len
        have ne3 : ∀ j, (h.next + j = kn) = False := fun j => by simp; omega
        have ne4 : ∀ j, (kn = h.next + j) = False := fun j => by simp; omega
        have happ := fun t hh news => appS_none (t := t) (et := 26) (sz := 1) (bytes := 24) (h := hh) (m := 1) (news := news) (k := kn) (n := Y.length) (cs := ds) (by omega) (by omega) (by unfold room; omega) (by unfold maxLen; omega)
        simp [k114l0, v6, v8, v26, v27, hc, D.cells, D.one, D.wk, hfr, Nat.add_assoc, w1, zerosD, apK_some, List.range_succ, apK_zero_slr, hgn, happ, ne3, ne4, appS0]
        refine ⟨k - 1, by omega, _, _, c + 1, .slr (h.next + 126) 0 (Y.length + 1) 1 none, rfl, by omega, fun j hj => ?_, by simp, .inr ⟨h.next + 126, ds ++ [.slr (h.next + 124) 0 1 1 none], by rw [hrg]; simp, by simp, by omega, by simp <;> omega, ?_⟩, by simp [v8], by simp [v26], by simp, ⟨by simp; omega, fun q hq => ?_, fun _ => ?_⟩, ?_⟩
        · rcases hj with rfl | rfl | rfl | rfl | rfl | rfl | rfl | rfl <;> simp [vs _ (.inl rfl), vs _ (.inr (.inl rfl)), vs _ (.inr (.inr (.inl rfl))), vs _ (.inr (.inr (.inr (.inl rfl)))), vs _ (.inr (.inr (.inr (.inr (.inl rfl))))), vs _ (.inr (.inr (.inr (.inr (.inr (.inl rfl)))))), vs _ (.inr (.inr (.inr (.inr (.inr (.inr (.inl rfl))))))), vs _ (.inr (.inr (.inr (.inr (.inr (.inr (.inr rfl))))))) ]
        · rw [hrg]
          refine A2.snoc (.inr ⟨by simp, h.next + 124, by simp, by simp [ne3], by simp <;> omega⟩) (ha.mono fun _ _ y => y.keep2 (by simp; omega) fun k cs hk hg => ?_)
          have nk : (k = kn) = False := by
            simp; rintro rfl; rw [hgn] at hg; cases hg
          have nn : ∀ j, (k = h.next + j) = False := fun j => by simp; omega
          simp [nn, nk, hg]
        · have nn : ∀ j, (q = h.next + j) = False := fun j => by simp; omega
          have nk : (q = kn) = False := by simp; omega
          simp [nn, nk, gr.raw q hq]
        · repeat' first | exact hf | apply Heap.Fr.bump | apply Heap.Fr.set
          all_goals first | omega | (simp <;> omega)
        · repeat' first | exact hf | apply Heap.Fr.bump | apply Heap.Fr.set
          all_goals first | omega | (simp <;> omega)
    · have hgx : h.get kx = some (.cells 3 (xl.map D.int)) := by rw [gr.get hkx]; exact hgx0
      have hxl0 : xl.length ≠ 0 := fun e => hxn (List.eq_nil_of_length_eq_zero e)
      have nex : ∀ j, (kx = h.next + j) = False := fun j => by simp; omega
      have z1 := fun t hh news k ty cs => appS_zero1 (t := t) (h := hh) (m := xl.length) (news := news) (k := k) (ty := ty) (cs := cs) (by omega) (by unfold room; omega) (by unfold maxLen; omega)
      have happ1 := fun t hh news k => appS_none (t := t) (et := 3) (sz := 1) (bytes := 8) (h := hh) (m := 1) (news := news) (k := k) (n := xl.length) (cs := xl.map D.int) (by simp) (by omega) (by unfold room; omega) (by unfold maxLen; omega)
      rcases hdn with ⟨hY0, rfl⟩ | ⟨kn, ds, rfl, hgn, hbn, hkn, ha⟩
      · subst hY0
        simp [k114l0, v6, v8, v26, v27, hc, D.cells, D.one, D.wk, hfr, Nat.add_assoc, w1, zerosD, apK_some, List.range_succ, r1, hxl0, hgx, nex, z1, happ1, List.take_of_length_le]
        refine ⟨k - 1, by omega, _, _, c + 1, .slr (h.next + 126) 0 1 1 none, rfl, by omega, fun j hj => ?_, by simp, .inr ⟨h.next + 126, [.slr (h.next + 124) 0 (xl.length + 1) 1 none], by rw [hrg]; simp, by simp, by omega, by simp <;> omega, ?_⟩, by simp [v8], by simp [v26], by simp, ⟨by simp; omega, fun q hq => ?_, fun _ => ?_⟩, ?_⟩
        · rcases hj with rfl | rfl | rfl | rfl | rfl | rfl | rfl | rfl <;> simp [vs _ (.inl rfl), vs _ (.inr (.inl rfl)), vs _ (.inr (.inr (.inl rfl))), vs _ (.inr (.inr (.inr (.inl rfl)))), vs _ (.inr (.inr (.inr (.inr (.inl rfl))))), vs _ (.inr (.inr (.inr (.inr (.inr (.inl rfl)))))), vs _ (.inr (.inr (.inr (.inr (.inr (.inr (.inl rfl))))))), vs _ (.inr (.inr (.inr (.inr (.inr (.inr (.inr rfl))))))) ]
        · rw [hrg]
          exact ⟨.inr ⟨by simp, h.next + 124, by simp, by simp, by simp <;> omega⟩, trivial⟩
        · have nn : ∀ j, (q = h.next + j) = False := fun j => by simp; omega
          simp [nn, gr.raw q hq]
        · repeat' first | exact hf | apply Heap.Fr.bump | apply Heap.Fr.set
          all_goals first | omega | (simp <;> omega)
        · repeat' first | exact hf | apply Heap.Fr.bump | apply Heap.Fr.set
          all_goals first | omega | (simp <;> omega)
      · have hdl := ha.len
        have ne3 : ∀ j, (h.next + j = kn) = False := fun j => by simp; omega
        have ne4 : ∀ j, (kn = h.next + j) = False := fun j => by simp; omega
        have happ := fun t hh news => appS_none (t := t) (et := 26) (sz := 1) (bytes := 24) (h := hh) (m := 1) (news := news) (k := kn) (n := Y.length) (cs := ds) (by omega) (by omega) (by unfold room; omega) (by unfold maxLen; omega)
        simp [k114l0, v6, v8, v26, v27, hc, D.cells, D.one, D.wk, hfr, Nat.add_assoc, w1, zerosD, apK_some, List.range_succ, hxl0, hgx, nex, z1, happ1, List.take_of_length_le, hgn, happ, ne3, ne4]
        refine ⟨k - 1, by omega, _, _, c + 1, .slr (h.next + 126) 0 (Y.length + 1) 1 none, rfl, by omega, fun j hj => ?_, by simp, .inr ⟨h.next + 126, ds ++ [.slr (h.next + 124) 0 (xl.length + 1) 1 none], by rw [hrg]; simp, by simp, by omega, by simp <;> omega, ?_⟩, by simp [v8], by simp [v26], by simp, ⟨by simp; omega, fun q hq => ?_, fun _ => ?_⟩, ?_⟩
        · rcases hj with rfl | rfl | rfl | rfl | rfl | rfl | rfl | rfl <;> simp [vs _ (.inl rfl), vs _ (.inr (.inl rfl)), vs _ (.inr (.inr (.inl rfl))), vs _ (.inr (.inr (.inr (.inl rfl)))), vs _ (.inr (.inr (.inr (.inr (.inl rfl))))), vs _ (.inr (.inr (.inr (.inr (.inr (.inl rfl)))))), vs _ (.inr (.inr (.inr (.inr (.inr (.inr (.inl rfl))))))), vs _ (.inr (.inr (.inr (.inr (.inr (.inr (.inr rfl))))))) ]
        · rw [hrg]
          refine A2.snoc (.inr ⟨by simp, h.next + 124, by simp, by simp [ne3], by simp <;> omega⟩) (ha.mono fun _ _ y => y.keep2 (by simp; omega) fun k cs hk hg => ?_)
          have nk : (k = kn) = False := by
            simp; rintro rfl; rw [hgn] at hg; cases hg
          have nn : ∀ j, (k = h.next + j) = False := fun j => by simp; omega
          simp [nn, nk, hg]
        · have nn : ∀ j, (q = h.next + j) = False := fun j => by simp; omega
          have nk : (q = kn) = False := by simp; omega
          simp [nn, nk, gr.raw q hq]
        · repeat' first | exact hf | apply Heap.Fr.bump | apply Heap.Fr.set
          all_goals first | omega | (simp <;> omega)
        · repeat' first | exact hf | apply Heap.Fr.bump | apply Heap.Fr.set
          all_goals first | omega | (simp <;> omega)
  · simp [k114l0, v26, v27, hc]
    refine ⟨_, _, c, dn, rfl, by omega, fun j hj => ?_, by simp [v6], ?_, by simp [v8], by simp [v26], by simp [v27], gr.bump _, hf.bump _⟩
    · rcases hj with rfl | rfl | rfl | rfl | rfl | rfl | rfl | rfl <;> simp [vs _ (.inl rfl), vs _ (.inr (.inl rfl)), vs _ (.inr (.inr (.inl rfl))), vs _ (.inr (.inr (.inr (.inl rfl)))), vs _ (.inr (.inr (.inr (.inr (.inl rfl))))), vs _ (.inr (.inr (.inr (.inr (.inr (.inl rfl)))))), vs _ (.inr (.inr (.inr (.inr (.inr (.inr (.inl rfl))))))), vs _ (.inr (.inr (.inr (.inr (.inr (.inr (.inr rfl))))))) ]
    · rcases hdn with a | ⟨kn, ds, a, b, c1, c2, e⟩
      · exact .inl a
      · exact .inr ⟨kn, ds, a, by simp [b], c1, by simp; omega, e.mono fun _ _ x => x.keep2 (by simp) fun k cs _ hg => by simpa using hg⟩
end Go.Proofs.YtlfknfknlcgfcaaGreatDoor
/- All choices of a world, by the document. -/
namespace Go.Proofs.YtlfknfknlcgfcaaGreatDoor
open Go Go.Em
set_option maxRecDepth 100000
structure Lh (h0 : Heap) (dL : D) (ls : List (List Int)) (kl : Nat) (dsL : List D) : Prop where
  d : ∃ cap, dL = .slr kl 0 ls.length 1 cap
  g : h0.get kl = some (.cells 26 dsL)
  l : kl < h0.next
  a : A2 (GN h0) dsL ls
def N1I (h0 : Heap) (x0 : Env 44) (m : Nat) (ls : List (List Int)) (k : Nat) (s : St) : Prop := ∃ (x : Env 44) (h : Heap) (i : Nat) (dn : D), s = ⟨x.l, h, []⟩ ∧ i + k = ls.length ∧ (∀ j, j = 3 ∨ j = 12 ∨ j = 13 ∨ j = 14 ∨ j = 18 ∨ j = 19 ∨ j = 5 → x.v j = x0.v j) ∧ x.v 20 = D.int i ∧ x.v 6 = dn ∧ LN h0.next h dn ((ls.take i).flatMap fun xl => rowF xl m) ∧ h0.Gr h ∧ h.Fr
theorem LN.keep {b : Nat} {h h' : Heap} {d : D} {ls : List (List Int)} (g : LN b h d ls) (hn : h.next ≤ h'.next) (hk : ∀ k, k < h.next → h'.get k = h.get k) : LN b h' d ls := by
  rcases g with a | ⟨kn, ds, a, b1, c1, c2, e⟩
  · exact .inl a
  · exact .inr ⟨kn, ds, a, by rw [hk kn c2]; exact b1, c1, by omega, e.mono fun _ _ x => x.keep2 hn fun k cs hk1 hg => by rw [hk k hk1]; exact hg⟩
theorem rows_len (m : Nat) : ∀ ls : List (List Int), (ls.flatMap fun xl => rowF xl m).length = ls.length * m
  | [] => by simp
  | x :: ls => by rw [List.flatMap_cons, List.length_append, row_len, rows_len m ls, List.length_cons, Nat.succ_mul]; omega
set_option maxHeartbeats 16000000 in
theorem n1_round (h0 : Heap) (x0 : Env 44) (q : Qst) (k5 kl : Nat) (ls : List (List Int)) (dL : D) (dsL : List D) (hL : Lh h0 dL ls kl dsL) (hx18 : x0.v 18 = dL) (hx19 : x0.v 19 = D.int ls.length) (hx5 : x0.v 5 = .ptr k5 0) (g5 : h0.get k5 = some (.cells 83 (qC q))) (l5 : k5 < h0.next) (hm : q.ch.length ≤ 60) (hls : ls.length ≤ 3000) (hlx : ∀ x ∈ ls, x.length ≤ 1000) : ∀ n, 100 ≤ n → ∀ k s, N1I h0 x0 q.ch.length ls k s → Res (k114l1.ev ⟨pg, 44, none⟩ (rc pg n) s) (Rnd (N1I h0 x0 q.ch.length ls) (fun x s => x = .exit 2 ∧ N1I h0 x0 q.ch.length ls 0 s) k) := by
  rintro n hn k s ⟨x, h, i, dn, rfl, hik, vs, v20, v6, hdn, gr, hf⟩
  obtain ⟨cap, rfl⟩ := hL.d
  have v18 := vs 18 (by simp)
  have v19 := vs 19 (by simp)
  have v5 := vs 5 (by simp)
  rw [hx18] at v18
  rw [hx19] at v19
  rw [hx5] at v5
  by_cases hi : i < ls.length
  · have w1 : IntKind.i64.wrap ((i : Int) + 1) = (i : Int) + 1 := wrap_i64 (by omega) (by omega)
    have hdl := hL.a.len
    have hid : i < dsL.length := by omega
    obtain ⟨xl, hxl⟩ : ∃ xl, ls[i] = xl := ⟨_, rfl⟩
    obtain ⟨dx, hdx⟩ : ∃ dx, dsL[i] = dx := ⟨_, rfl⟩
    have hgn : GN h0 dx xl := by rw [← hxl, ← hdx]; exact A2.at hL.a hid hi
    have hgl : h.get kl = some (.cells 26 dsL) := by rw [gr.get hL.l]; exact hL.g
    have hg5 : h.get k5 = some (.cells 83 (qC q)) := by rw [gr.get l5]; exact g5
    have htk : ls.take (i + 1) = ls.take i ++ [xl] := by rw [List.take_add_one, List.getElem?_eq_getElem hi, hxl]; rfl
    have hx1 := hlx xl (by rw [← hxl]; exact List.getElem_mem hi)
    obtain ⟨X, hX⟩ : ∃ X, X = (ls.take i).flatMap fun xl => rowF xl q.ch.length := ⟨_, rfl⟩
    have hXl : X.length ≤ 1000000 := by
      rw [hX, rows_len, List.length_take]
      have : min i ls.length * q.ch.length ≤ 3000 * 60 := Nat.mul_le_mul (by omega) hm
      omega
    have hXn : (ls.take (i + 1)).flatMap (fun xl => rowF xl q.ch.length) = X ++ rowF xl q.ch.length := by rw [htk, List.flatMap_append, hX]; simp
    rw [← hX] at hdn
    have hod : dx.one = true := by rcases hgn with ⟨_, rfl⟩ | ⟨_, _, rfl, _⟩ <;> rfl
    simp only [qC, chD] at hg5
    simp [k114l1, v5, v18, v19, v20, hi, hgl, hid, show i + 1 ≤ dsL.length from hid, hdx, hg5, ev_loop]
    refine Res.yb (lp_rule 10 (N0I h0 _ q.ch.length xl dx X) _ (n0_round h0 _ q.ch.length xl dx X hgn hm hx1 hXl) q.ch.length n _ (by omega) ⟨_, _, 0, dn, rfl, by omega, fun j hj => rfl, by simp [v6], ?_, by simp, by simp, by simp, ((gr.bump _).bump _).bump _, by repeat' first | exact hf | apply Heap.Fr.bump⟩) ?_
    · have : X ++ rowF xl 0 = X := by simp [rowF]
      rw [this]
      exact hdn.keep (by simp <;> omega) (fun k _ => by simp)
    · rintro y s ⟨rfl, y, h1, c, dn1, rfl, hc1, ws, y6, hdn1, _, _, _, gr1, hf1⟩
      have hcl : c = q.ch.length := by omega
      subst hcl
      have y20 := ws 20 (by simp)
      simp [v20] at y20
      simp [y20, w1]
      refine ⟨k - 1, by omega, _, _, i + 1, dn1, rfl, by omega, fun j hj => ?_, by simp, by simp [y6], ?_, gr1.bump _, hf1.bump _⟩
      · have e1 := ws j (by omega)
        have e2 := vs j hj
        rcases hj with rfl | rfl | rfl | rfl | rfl | rfl | rfl <;> (simp at e1 ⊢; rw [e1, e2])
      · rw [hXn]; exact hdn1.keep (by simp) (by simp)
  · simp [k114l1, v19, v20, hi]
    refine ⟨_, _, i, dn, rfl, by omega, fun j hj => ?_, by simp [v20], by simp [v6], hdn.keep (by simp) (by simp), gr.bump _, hf.bump _⟩
    have e2 := vs j hj
    rcases hj with rfl | rfl | rfl | rfl | rfl | rfl | rfl <;> (simp; exact e2)
end Go.Proofs.YtlfknfknlcgfcaaGreatDoor
/- All choices of a world, by the document: its run. -/
namespace Go.Proofs.YtlfknfknlcgfcaaGreatDoor
open Go Go.Em
set_option maxRecDepth 100000
def stepA (l : List (List Int)) (q : Qst) : List (List Int) := l.flatMap fun xl => rowF xl q.ch.length
def allL (qs : List Qst) : List (List Int) := qs.foldl stepA [[]]
theorem all_snoc (qs : List Qst) (q : Qst) : allL (qs ++ [q]) = stepA (allL qs) q := by unfold allL; rw [List.foldl_append]; rfl
theorem all_len (qs : List Qst) : (allL qs).length = leavesF qs := by
  have : ∀ (l : List Qst) (a : List (List Int)) (m : Nat), a.length = m → (l.foldl stepA a).length = l.foldl (fun m q => m * q.ch.length) m := by
    intro l
    induction l with
    | nil => intro a m h; exact h
    | cons q l ih => intro a m h; exact ih _ _ (by unfold stepA; rw [rows_len, h])
  exact this qs [[]] 1 rfl
theorem all_el (qs : List Qst) : ∀ x ∈ allL qs, x.length = qs.length := by
  have : ∀ (l : List Qst) (a : List (List Int)) (m : Nat), (∀ x ∈ a, x.length = m) → ∀ x ∈ l.foldl stepA a, x.length = m + l.length := by
    intro l
    induction l with
    | nil => intro a m h x hx; simpa using h x hx
    | cons q l ih =>
      intro a m h x hx
      have := ih (stepA a q) (m + 1) (fun y hy => by
        unfold stepA at hy
        obtain ⟨z, hz, hy⟩ := List.mem_flatMap.1 hy
        unfold rowF at hy
        obtain ⟨c, _, rfl⟩ := List.mem_map.1 hy
        simp [h z hz]) x hx
      simp at this ⊢; omega
  intro x hx
  have := this qs [[]] 0 (by simp) x hx
  omega
theorem leaves_pre {l : List Qst} (hl : ∀ q ∈ l, 1 ≤ q.ch.length) (i : Nat) : leavesF (l.take i) ≤ leavesF l := by
  have : ∀ (l : List Qst) (m : Nat), (∀ q ∈ l, 1 ≤ q.ch.length) → m ≤ l.foldl (fun m q => m * q.ch.length) m := by
    intro l
    induction l with
    | nil => intro m _; exact Nat.le_refl _
    | cons q l ih => intro m h; exact Nat.le_trans (Nat.le_mul_of_pos_right m (h q List.mem_cons_self)) (ih _ fun q hq => h q (List.mem_cons_of_mem _ hq))
  conv => rhs; rw [← List.take_append_drop i l]
  unfold leavesF
  rw [List.foldl_append]
  exact this _ _ fun q hq => hl q (List.mem_of_mem_drop hq)
def N2I (w : Wld) (k : Nat) (s : St) : Prop := ∃ (x : Env 44) (h : Heap) (i kl : Nat) (dL : D) (dsL : List D), s = ⟨x.l, h, []⟩ ∧ i + k = w.qs.length ∧ x.v 12 = qsD w.qs ∧ x.v 13 = D.int w.qs.length ∧ x.v 14 = D.int i ∧ x.v 3 = dL ∧ Lh h dL (allL (w.qs.take i)) kl dsL ∧ h.Fr
set_option maxHeartbeats 16000000 in
theorem n2_round (w : Wld) (hq : w.qs.all okQ = true) (h6 : w.qs.length ≤ 6) (hl : leavesF w.qs ≤ 3000) : ∀ n, 4000 ≤ n → ∀ k s, N2I w k s → Res (k114l2.ev ⟨pg, 44, none⟩ (rc pg n) s) (Rnd (N2I w) (fun x s => x = .exit 0 ∧ N2I w 0 s) k) := by
  rintro n hn k s ⟨x, h, i, kl, dL, dsL, rfl, hik, v12, v13, v14, v3, hL, hf⟩
  simp only [qsD] at v12
  by_cases hi : i < w.qs.length
  · obtain ⟨q, hqq⟩ : ∃ q, w.qs[i] = q := ⟨_, rfl⟩
    have hmem : q ∈ w.qs := by rw [← hqq]; exact List.getElem_mem hi
    obtain ⟨_, hc, _⟩ := ok_q (List.all_eq_true.1 hq q hmem)
    have htk : w.qs.take (i + 1) = w.qs.take i ++ [q] := by rw [List.take_add_one, List.getElem?_eq_getElem hi, hqq]; rfl
    have w1 : IntKind.i64.wrap ((i : Int) + 1) = (i : Int) + 1 := wrap_i64 (by omega) (by omega)
    have hfr : ∀ j, h.raw (h.next + j) = none := fun j => hf _ (by omega)
    have h1 : ∀ q ∈ w.qs, 1 ≤ q.ch.length := fun q hq' => (ok_q (List.all_eq_true.1 hq q hq')).2.1.1
    have hle : (allL (w.qs.take i)).length ≤ 3000 := by rw [all_len]; exact Nat.le_trans (leaves_pre h1 i) hl
    have hel : ∀ x ∈ allL (w.qs.take i), x.length ≤ 1000 := fun x hx => by rw [all_el _ x hx, List.length_take]; omega
    have has := all_snoc (w.qs.take i) q
    rw [← htk] at has
    obtain ⟨ls, hls⟩ : ∃ ls, ls = allL (w.qs.take i) := ⟨_, rfl⟩
    rw [← hls] at hL hle hel has
    obtain ⟨cap, rfl⟩ := hL.d
    simp [k114l2, v3, v12, v13, v14, hi, hqq, qD, qC, chD, D.cells, D.one, hfr, Nat.add_assoc, ev_loop]
    obtain ⟨H, hH⟩ : ∃ H : Heap, H = ((((((h.bump 44).bump 44).set (h.next + 49) (some (.cells 83 [D.int 0, .val (.slice none 0 0)]))).set (h.next + 49) (some (.cells 83 [D.int q.b, .sl false (q.ch.map clsD)]))).bump 44).bump 44) := ⟨_, rfl⟩
    have fH : H.Fr := by
      rw [hH]
      repeat' first | exact hf | apply Heap.Fr.bump | apply Heap.Fr.set
      all_goals (simp <;> omega)
    have nH : H.next = h.next + 176 := by rw [hH]; simp
    have oldH : ∀ j, j < h.next → H.get j = h.get j := fun j hj => by
      have : (j = h.next + 49) = False := by simp; omega
      rw [hH]; simp [this]
    have g5 : H.get (h.next + 49) = some (.cells 83 (qC q)) := by rw [hH]; simp [qC, chD]
    have hLH : Lh H (.slr kl 0 ls.length 1 cap) ls kl dsL := ⟨⟨cap, rfl⟩, by rw [oldH kl hL.l]; exact hL.g, by have := hL.l; omega, hL.a.mono fun _ _ x => x.keep2 (by omega) fun k cs hk hg => by rw [oldH k hk]; exact hg⟩
    have hH' : (((((h.bump 44).bump 44).set (h.next + 49) (some (.cells 83 [.val (.int .i64 0), .val (.slice none 0 0)]))).set (h.next + 49) (some (.cells 83 [D.int q.b, .sl false (q.ch.map clsD)]))).bump 44).bump 44 = H := hH.symm
    rw [hH']
    refine Res.yd (lp_rule 100 (N1I H _ q.ch.length ls) _ (n1_round H _ q (h.next + 49) kl ls _ dsL hLH (by simp) (by simp) (by simp) g5 (by omega) (by omega) hle hel) ls.length n _ (by omega) ⟨_, _, 0, .val (.slice none 0 0), rfl, by omega, fun j hj => rfl, by simp, by simp, .inl ⟨by simp, rfl⟩, ⟨Nat.le_refl _, fun _ _ => rfl, fun a => a⟩, fH⟩) ?_
    rintro y s ⟨rfl, y, h2, i2, dn, rfl, hi2, ws, _, y6, hdn, gr, f2⟩
    have hil : i2 = ls.length := by omega
    subst hil
    rw [List.take_length] at hdn
    have e12 := ws 12 (by simp)
    have e13 := ws 13 (by simp)
    have e14 := ws 14 (by simp)
    simp [v12, v13, v14] at e12 e13 e14
    simp [y6, e14, w1]
    have hpos : 1 ≤ (allL (w.qs.take (i + 1))).length := by
      rw [all_len]
      have := leaves_pre (l := w.qs.take (i + 1)) (fun q hq' => h1 q (List.mem_of_mem_take hq')) 0
      simpa [leavesF] using this
    rcases hdn with ⟨hnil, _⟩ | ⟨kn, ds, hd, hg, _, hk, ha⟩
    · rw [has] at hpos
      unfold stepA at hpos
      rw [hnil] at hpos
      simp at hpos
    · refine ⟨k - 1, by omega, _, _, i + 1, kn, dn, ds, rfl, by omega, by simp [e12, qsD], by simp [e13], by simp, by simp, ⟨⟨none, by rw [has]; exact hd⟩, by simpa using hg, by simp; omega, ?_⟩, by repeat' first | exact f2 | apply Heap.Fr.bump⟩
      rw [has]
      exact ha.mono fun _ _ x => x.keep2 (by simp <;> omega) fun k cs _ hg => by simpa using hg
  · simp [k114l2, v13, v14, hi]
    exact ⟨_, _, i, kl, dL, dsL, rfl, by omega, by simp [v12, qsD], by simp [v13], by simp [v14], by simp [v3], ⟨hL.d, by simpa using hL.g, by have := hL.l; simp; omega, hL.a.mono fun _ _ x => x.keep2 (by simp) fun k cs _ hg => by simpa using hg⟩, hf.bump _⟩
def llD (l : List (List Int)) : D := .sl false (l.map intsD)
theorem each_gn {h : Heap} (n : Nat) : ∀ {ds : List D} {ls : List (List Int)}, A2 (GN h) ds ls → ∃ ks, each (Go.Em.frz h (n + 2)) ds = some (ls.map intsD, ks)
  | [], [], _ => ⟨[], rfl⟩
  | d :: ds, b :: bs, a => by
    obtain ⟨k1, e1⟩ := GL.frzn a.1.gl n
    obtain ⟨k2, e2⟩ := each_gn n a.2
    exact ⟨k1 ++ k2, by rw [each_cons, e1, e2, eachK_some]; rfl⟩
  | [], _ :: _, a => a.elim
  | _ :: _, [], a => a.elim
set_option maxHeartbeats 4000000 in
theorem all_run (w : Wld) (hq : w.qs.all okQ = true) (h6 : w.qs.length ≤ 6) (hl : leavesF w.qs ≤ 3000) {n : Nat} (hn : 5000 ≤ n) : pureCall (rc pg n) 114 [wD w] = some (.ret (llD (allL w.qs))) := by
  obtain ⟨m, rfl, e⟩ := body (pg := pg) (f := 114) (args := [wD w]) (show 0 < n by omega) rfl rfl
  rw [e]
  simp [k114, Env.v_ini, wD, clsD, qsD, D.cells, D.one, zerosD, ev_loop]
  refine Res.endsAfter (lp_rule 4000 (N2I w) _ (n2_round w hq h6 hl) w.qs.length m _ (by omega) ⟨_, _, 0, 54, .slr 54 0 1 1 (some 1), [.val (.slice none 0 0)], rfl, by omega, by simp [qsD], by simp, by simp, by simp, ⟨⟨some 1, by simp [allL]⟩, by simp, by simp, by simp [allL, A2, GN]⟩, ?_⟩) ?_
  · repeat' first | exact Heap.Fr.empty | apply Heap.Fr.bump | apply Heap.Fr.set
    all_goals simp
  · rintro y s ⟨rfl, x, h, i, kl, dL, ds, rfl, hi, _, _, _, v3, hL, hf⟩
    have hil : i = w.qs.length := by omega
    subst hil
    rw [List.take_length] at hL
    obtain ⟨cap, hd⟩ := hL.d
    have hL2 := hL.a.len
    obtain ⟨ks, he⟩ := each_gn (h := h.bump 44) 21 (hL.a.mono fun _ _ x => x.keep2 (by simp) fun k cs _ hg => by simpa using hg)
    have hz : ∃ ks, Go.Em.frz (h.bump 44) 24 dL = some (llD (allL w.qs), ks) := by
      refine ⟨kl :: ks, ?_⟩
      rw [hd, frz_slr, show (h.bump 44).get kl = some (.cells 26 ds) by simpa using hL.g, frzS_cells]
      simp only [List.drop_zero, Nat.zero_add, Nat.mul_one]
      rw [if_pos ⟨by omega, by omega⟩, List.take_of_length_le (by omega), he]
      simp only [Option.map_some]
      rw [chunk_o1 _ _ (by simp)]; rfl
    obtain ⟨ks2, hz⟩ := hz
    simp [v3]
    exact ⟨_, hz⟩
end Go.Proofs.YtlfknfknlcgfcaaGreatDoor
