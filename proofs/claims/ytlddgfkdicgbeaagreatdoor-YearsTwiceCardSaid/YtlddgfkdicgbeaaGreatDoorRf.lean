/- The loop that makes a set of its ends: a round. -/
import Derived.Test.YtlddgfkdicgbeaaGreatDoorRa
namespace Go.Proofs.YtlddgfkdicgbeaaGreatDoor
open Go Go.Em
set_option maxRecDepth 100000
theorem GR.off {h : Heap} {d : D} {L : List Rn} {q : Nat} {B : Blk} (g : GR h d L) (hq : h.get q = some B) (hB : ∀ cs, B ≠ .cells 40 cs) : blkOf d ≠ some q := by
  rcases g with ⟨_, rfl⟩ | ⟨k, rfl, g, _⟩
  · intro h; cases h
  · intro hh
    have : k = q := by injection hh
    subst this
    rw [g] at hq
    exact hB _ (by injection hq with h1; exact h1.symm)
theorem GR.set {h : Heap} {d : D} {L : List Rn} {q : Nat} (g : GR h d L) (hb : blkOf d ≠ some q) (X : Option Blk) : GR (h.set q X) d L := by
  rcases g with g | ⟨k, rfl, g, hk⟩
  · exact .inl g
  · have : k ≠ q := fun hh => hb (by rw [hh]; rfl)
    exact .inr ⟨k, rfl, by rw [Heap.get_set, if_neg this]; exact g, by simpa using hk⟩
theorem GR.bump {h : Heap} {d : D} {L : List Rn} (g : GR h d L) (n : Nat) : GR (h.bump n) d L := g.keep (by simp) (by simp)
theorem GR.gr {h h' : Heap} {d : D} {L : List Rn} (g : GR h d L) (w : h.Gr h') : GR h' d L := g.keep w.next fun _ hk => w.get hk
theorem longR_ne (L : List Rn) (r : Rn) : Runs.longR L r ≠ [] := by
  rcases List.eq_nil_or_concat L with rfl | ⟨M, s, rfl⟩
  · rw [longR_nil]; simp
  · rw [List.concat_eq_append, longR_snoc]; split <;> simp
structure KeptF (fk : Nat) (kept : Bool → Bool → Bool) : Prop where
  sh : pg.sh fk = false
  code : (pg.code fk).isSome = true
  run : ∀ n, 1 ≤ n → ∀ x y, pureCall (rc pg n) fk [D.bool x, D.bool y] = some (.ret (D.bool (kept x y)))
def CbL (X : Env 46) (M : Nat) : Lp := ⟨X.l, [15], k28l0, k28l1, M, .ready, .normal⟩
def CbS (b : Nat) (kept : Bool → Bool → Bool) (T : List Rn) (E : List EE) (h : Heap) : Prop :=
  ∃ (dl : D) (L : List Rn) (fr f s : Int), h.get (b + 53) = some (.cells 22 [dl]) ∧ GR h dl L ∧ h.get (b + 100) = some (.cells 3 [D.int fr]) ∧ h.get (b + 101) = some (.cells 3 [D.int f]) ∧ h.get (b + 102) = some (.cells 3 [D.int s]) ∧
    Runs.combF kept E fr f s L = T ∧ L.length + E.length ≤ 8000000 ∧ Runs.NF L ∧ (∀ r, r ∈ L → r.2 < fr) ∧ -1000000000 ≤ fr ∧ E.Pairwise (fun a b => a.y ≤ b.y) ∧ (∀ x, x ∈ E → fr ≤ x.y ∧ x.y ≤ 1000000001 ∧ -1 ≤ x.f ∧ x.f ≤ 1 ∧ -1 ≤ x.s ∧ x.s ≤ 1) ∧
    -8000000 + (E.length : Int) ≤ f ∧ f ≤ 8000000 - E.length ∧ -8000000 + (E.length : Int) ≤ s ∧ s ≤ 8000000 - E.length
def CbJ (X : Env 46) (b fk : Nat) (kept : Bool → Bool → Bool) (T : List Rn) (E : List EE) (h : Heap) : Prop :=
  h.get (b + 185) = some (.loop (CbL X (b + 184))) ∧ h.get (b + 184) = some .mark ∧ h.get (b + 5) = some (.cells 42 [.fn (.func fk) [] []]) ∧ CbS b kept T E h
theorem CbS.gr {b : Nat} {kept : Bool → Bool → Bool} {T : List Rn} {E : List EE} {h h' : Heap} (s : CbS b kept T E h) (hb : b + 186 ≤ h.next) (w : h.Gr h') : CbS b kept T E h' := by
  obtain ⟨dl, L, fr, f, s, g1, g2, g3, g4, g5, r⟩ := s
  exact ⟨dl, L, fr, f, s, by rw [w.get (by omega)]; exact g1, g2.gr w, by rw [w.get (by omega)]; exact g3, by rw [w.get (by omega)]; exact g4, by rw [w.get (by omega)]; exact g5, r⟩
theorem CbS.loop {b : Nat} {kept : Bool → Bool → Bool} {T : List Rn} {E : List EE} {h : Heap} {q : Lp} (s : CbS b kept T E h) (hq : h.get (b + 185) = some (.loop q)) (X : Option Blk) : CbS b kept T E (h.set (b + 185) X) := by
  obtain ⟨dl, L, fr, f, s, g1, g2, g3, g4, g5, r⟩ := s
  exact ⟨dl, L, fr, f, s, by simp [g1], g2.set (g2.off hq (fun _ h => by cases h)) X, by simp [g3], by simp [g4], by simp [g5], r⟩
theorem combF_cons (kept : Bool → Bool → Bool) (x : EE) (t : List EE) (fr f s : Int) (L : List Rn) : Runs.combF kept (x :: t) fr f s L = Runs.combF kept t x.y (f + x.f) (s + x.s) (if (decide (fr < x.y) && kept (decide (f > 0)) (decide (s > 0))) = true then Runs.longR L (fr, x.y - 1) else L) := rfl
set_option maxHeartbeats 16000000 in
theorem cb_body (Y : Env 46) (b fk p : Nat) (kept : Bool → Bool → Bool) (hk : KeptF fk kept) (T : List Rn) (x5 : Y.v 5 = .ptr (b + 5) 0) (x7 : Y.v 7 = .ptr (b + 53) 0) (x8 : Y.v 8 = .ptr (b + 100) 0) (x9 : Y.v 9 = .ptr (b + 101) 0) (x10 : Y.v 10 = .ptr (b + 102) 0) (x11 : Y.v 11 = .ptr p 0) (e : EE) (E : List EE) (q : Lp) {h : Heap} (hp : b + 186 ≤ p) (gp : h.get p = some (.cells 74 [D.int e.y, D.int e.f, D.int e.s]))
    (g1 : h.get (b + 185) = some (.loop q)) (g2 : h.get (b + 184) = some .mark) (g3 : h.get (b + 5) = some (.cells 42 [.fn (.func fk) [] []])) (S : CbS b kept T (e :: E) h) (hf : h.Fr) (hpn : p < h.next) {m : Nat} (hm : 5 ≤ m) :
    Res (k28l1.ev ⟨pg, 46, some (b + 185)⟩ (rc pg m) { e := Y.l, h := h, df := [] }) fun x s2 => x = .normal ∧ s2.df = [] ∧ s2.h.get (b + 185) = some (.loop q) ∧ h.next ≤ s2.h.next ∧ s2.h.Fr ∧ s2.h.get (b + 184) = some .mark ∧ s2.h.get (b + 5) = some (.cells 42 [.fn (.func fk) [] []]) ∧ CbS b kept T E s2.h := by
  obtain ⟨dl, L, fr, f, s, h1, h2, h3, h4, h5, hT, hlen, hNF, hLf, hfr0, hpw, hE, hf1, hf2, hs1, hs2⟩ := S
  have hfr : ∀ j, h.raw (h.next + j) = none := fun j => hf _ (by omega)
  obtain ⟨e1, e2, e3, e4, e5, e6⟩ := hE e List.mem_cons_self
  have hlen' : L.length + E.length + 1 ≤ 8000000 := by rw [List.length_cons] at hlen; omega
  have hc1 : ((e :: E).length : Int) = (E.length : Int) + 1 := by simp
  rw [hc1] at hf1 hf2 hs1 hs2
  obtain ⟨pw1, pw2⟩ := List.pairwise_cons.1 hpw
  have hE' : ∀ x, x ∈ E → e.y ≤ x.y ∧ x.y ≤ 1000000001 ∧ -1 ≤ x.f ∧ x.f ≤ 1 ∧ -1 ≤ x.s ∧ x.s ≤ 1 := fun x hx => ⟨pw1 x hx, (hE x (List.mem_cons_of_mem _ hx)).2⟩
  rw [combF_cons] at hT
  have np1 : ∀ i, i ≤ 185 → (b + i = p) = False := fun i hi => by simp; omega
  have np2 : ∀ i, i ≤ 185 → (p = b + i) = False := fun i hi => by simp; omega
  have n5 := np1 5 (by omega)
  have n53 := np1 53 (by omega)
  have n100 := np1 100 (by omega)
  have n101 := np1 101 (by omega)
  have n102 := np1 102 (by omega)
  have m100 := np2 100 (by omega)
  have m101 := np2 101 (by omega)
  have m102 := np2 102 (by omega)
  have m53 := np2 53 (by omega)
  have w1 : IntKind.i64.wrap (f + e.f) = f + e.f := wrap_i64 (by omega) (by omega)
  have w2 : IntKind.i64.wrap (s + e.s) = s + e.s := wrap_i64 (by omega) (by omega)
  have w3 : IntKind.i64.wrap (e.y - 1) = e.y - 1 := wrap_i64 (by omega) (by omega)
  have off := fun (q : Nat) (B : Blk) (hq : h.get q = some B) hB => h2.off hq hB
  have o53 := h2.off h1 (fun _ h => by cases h)
  have o100 := h2.off h3 (fun _ h => by cases h)
  have o101 := h2.off h4 (fun _ h => by cases h)
  have o102 := h2.off h5 (fun _ h => by cases h)
  have kc := fun x y H => call_of (h := H) (pg := pg) (f := fk) hk.sh rfl (hk.run m (by omega) x y)
  have kcode := hk.code
  by_cases c1 : fr < e.y
  · cases c2 : kept (decide (f > 0)) (decide (s > 0)) with
    | true =>
      rw [c2, decide_eq_true c1, if_pos (show (true && true) = true from rfl)] at hT
      have kc' := kc (decide (f > 0)) (decide (s > 0))
      rw [c2] at kc'
      simp at kc'
      obtain ⟨H, hH⟩ : ∃ H, H = (h.bump 46).bump 46 := ⟨_, rfl⟩
      have hHn : H.next = h.next + 92 := by rw [hH]; simp
      have hHr : ∀ q, H.raw q = h.raw q := fun q => by rw [hH]; simp
      have hHg : ∀ q, H.get q = h.get q := fun q => by rw [hH]; simp
      obtain ⟨dl', h', cl, G', F', N', R'⟩ := longer_sh (r := (fr, e.y - 1)) (d := dl) (L := L) (h := H) (by rw [hH]; exact (h2.bump _).bump _) (by rw [hH]; exact (hf.bump _).bump _) (by omega) hNF.1 (n := m) (by omega)
      have cs := call_sh (pg := pg) (f := 44) rfl cl
      have hget : ∀ q B, h.get q = some B → (∀ cs, B ≠ .cells 40 cs) → h'.get q = some B := fun q B hq hB => by
        have hqn : q < h.next := by
          apply Decidable.byContradiction
          intro hn
          have := Heap.raw_of_get hq
          rw [hf q (by omega)] at this
          cases this
        unfold Heap.get at hq ⊢
        rw [R' q (by omega) (off q B hq hB), hHr]
        exact hq
      have g1' := hget _ _ g1 (fun _ h => by cases h)
      have g2' := hget _ _ g2 (fun _ h => by cases h)
      have g3' := hget _ _ g3 (fun _ h => by cases h)
      have h1' := hget _ _ h1 (fun _ h => by cases h)
      have h3' := hget _ _ h3 (fun _ h => by cases h)
      have h4' := hget _ _ h4 (fun _ h => by cases h)
      have h5' := hget _ _ h5 (fun _ h => by cases h)
      have gp' := hget _ _ gp (fun _ h => by cases h)
      have p53 := G'.off h1' (fun _ h => by cases h)
      have p100 := G'.off h3' (fun _ h => by cases h)
      have p101 := G'.off h4' (fun _ h => by cases h)
      have p102 := G'.off h5' (fun _ h => by cases h)
      obtain ⟨a1, _, a3⟩ := Runs.longR_ok (L := L) (r := (fr, e.y - 1)) hNF ⟨hfr0, by show fr ≤ e.y - 1; omega, by show e.y - 1 ≤ 1000000000; omega⟩ hLf
      have a4 := longR_len L (fr, e.y - 1)
      obtain ⟨kk', rfl⟩ : ∃ kk', dl' = .slr kk' 0 (Runs.longR L (fr, e.y - 1)).length 2 none := by
        rcases G' with ⟨e0, _⟩ | ⟨kk', e0, _⟩
        · exact absurd e0 (longR_ne _ _)
        · exact ⟨kk', e0⟩
      simp only at cs
      simp [k28l1, x5, x7, x8, x9, x10, x11, g3, h1, h3, h4, h5, gp, D.cells, D.one, c1, kc', w1, w2, w3, m100, m101, m53, ← hH, hHg, cs, h1', h3', h4', h5', gp', g1', g2', g3']
      refine ⟨by omega, ?_, _, _, e.y, f + e.f, s + e.s, by simp, (((((G'.set p53 _).bump _).set p100 _).set p101 _).set p102 _), by simp, by simp, by simp, hT, by omega, a1, fun r hr => by have := a3 r hr; have h2 : r.2 ≤ e.y - 1 := this; omega, by omega, pw2, hE', by omega, by omega, by omega, by omega⟩
      repeat' first | exact F' | apply Heap.Fr.bump | apply Heap.Fr.set
      all_goals first | omega | (simp <;> omega)
    | false =>
      rw [c2, decide_eq_true c1, if_neg (by simp)] at hT
      have kc' := kc (decide (f > 0)) (decide (s > 0))
      rw [c2] at kc'
      simp at kc'
      simp [k28l1, x5, x8, x9, x10, x11, g3, h3, h4, h5, gp, D.cells, D.one, c1, kc', w1, w2, m100, m101]
      refine ⟨g1, by omega, ?_, g2, dl, L, e.y, f + e.f, s + e.s, by simp [h1], ((((h2.bump _).bump _).set o100 _).set o101 _).set o102 _, by simp, by simp, by simp, hT, by omega, hNF, fun r hr => by have := hLf r hr; omega, by omega, pw2, hE', by omega, by omega, by omega, by omega⟩
      repeat' first | exact hf | apply Heap.Fr.bump | apply Heap.Fr.set
      all_goals (simp <;> omega)
  · rw [decide_eq_false c1, if_neg (by simp)] at hT
    simp [k28l1, x8, x9, x10, x11, g3, h3, h4, h5, gp, D.cells, D.one, c1, w1, w2, m100, m101]
    refine ⟨g1, by omega, ?_, g2, dl, L, e.y, f + e.f, s + e.s, by simp [h1], ((((h2.bump _).bump _).set o100 _).set o101 _).set o102 _, by simp, by simp, by simp, hT, by omega, hNF, fun r hr => by have := hLf r hr; omega, by omega, pw2, hE', by omega, by omega, by omega, by omega⟩
    repeat' first | exact hf | apply Heap.Fr.bump | apply Heap.Fr.set
    all_goals (simp <;> omega)
set_option maxHeartbeats 16000000 in
theorem cb_iter (X : Env 46) (b fk : Nat) (kept : Bool → Bool → Bool) (hk : KeptF fk kept) (T : List Rn) (x5 : X.v 5 = .ptr (b + 5) 0) (x7 : X.v 7 = .ptr (b + 53) 0) (x8 : X.v 8 = .ptr (b + 100) 0) (x9 : X.v 9 = .ptr (b + 101) 0) (x10 : X.v 10 = .ptr (b + 102) 0) :
    IterE (b + 185) (b + 186) 10 (CbJ X b fk kept T) := by
  refine ⟨fun E h h' ⟨g1, g2, g3, g4⟩ hn w => ⟨by rw [w.get (by omega)]; exact g1, by rw [w.get (by omega)]; exact g2, by rw [w.get (by omega)]; exact g3, g4.gr hn w⟩, ?_⟩
  rintro n hn e E h ⟨g1, g2, g3, dl, L, fr, f, s, h1, h2, h3, h4, h5, hT, hlen, hNF, hLf, hfr0, hpw, hE, hf1, hf2, hs1, hs2⟩ hf hn0
  obtain ⟨m, rfl⟩ := more_of (show 1 ≤ n by omega)
  have hfr : ∀ j, h.raw (h.next + j) = none := fun j => hf _ (by omega)
  obtain ⟨e1, e2, e3, e4, e5, e6⟩ := hE e List.mem_cons_self
  have ne1 : ∀ i, i ≤ 185 → ∀ j, (b + i = h.next + j) = False := fun i hi j => by simp; omega
  have ne2 : ∀ i, i ≤ 185 → ∀ j, (h.next + j = b + i) = False := fun i hi j => by simp; omega
  obtain ⟨Q, hQ⟩ : ∃ Q, Q = CbL X (b + 184) := ⟨_, rfl⟩
  have le : Q.e = X.l := by rw [hQ]; rfl
  have lp : Q.ps = [15] := by rw [hQ]; rfl
  have la : Q.as = k28l0 := by rw [hQ]; rfl
  have lb : Q.bd = k28l1 := by rw [hQ]; rfl
  rw [← hQ] at g1
  have key := @yl_rule pg m (b + 185) h Q [.agg [D.int e.y, D.int e.f, D.int e.s]] (fun x h' => x = .normal ∧ h.next ≤ h'.next ∧ h'.Fr ∧ h'.get (b + 184) = some .mark ∧ h'.get (b + 5) = some (.cells 42 [.fn (.func fk) [] []]) ∧ CbS b kept T E h' ∧ h'.get (b + 185) = some (.loop Q.busy)) g1 (by rw [lp]; rfl) (by rw [hQ]; rfl) ?_
  · obtain ⟨x, h', hx, ⟨rfl, q1, q2, q3, q4, q5, q6⟩, ev⟩ := key
    refine ⟨h'.set (b + 185) (some (.loop (Q.over .normal))), ev, by simp; omega, q2.set _ (by omega), ?_, ?_, ?_, ?_⟩
    · rw [Heap.get_set, if_pos rfl, hQ]; rfl
    · simp [q3]
    · simp [q4]
    · exact q5.loop q6 _
  have q1 := ne1 185 (by omega)
  have q2 := ne2 185 (by omega)
  simp [le, lp, la, lb, X.hl, k28l0, D.cells, D.one, hfr, q1, g1]
  obtain ⟨p, hp⟩ : ∃ p, p = h.next + 11 := ⟨_, rfl⟩
  rw [← hp]
  have np1 : ∀ i, i ≤ 185 → (b + i = p) = False := fun i hi => by simp; omega
  have np2 : ∀ i, i ≤ 185 → (p = b + i) = False := fun i hi => by simp; omega
  have a185 := np1 185 (by omega)
  have a184 := np1 184 (by omega)
  have a5 := np1 5 (by omega)
  have b185 := np2 185 (by omega)
  have S0 : CbS b kept T (e :: E) h := ⟨dl, L, fr, f, s, h1, h2, h3, h4, h5, hT, hlen, hNF, hLf, hfr0, hpw, hE, hf1, hf2, hs1, hs2⟩
  have hG : ∀ A B, h.Gr (((h.bump 46).set p A).set p B) := fun A B => by
    refine Heap.Gr.set (Heap.Gr.set ((Heap.Gr.refl h).bump 46) _ (by omega) ?_) _ (by omega) ?_ <;> simp <;> omega
  refine (cb_body _ b fk p kept hk T (by simp [x5]) (by simp [x7]) (by simp [x8]) (by simp [x9]) (by simp [x10]) (by simp) e E Q.busy (by omega) (by simp [b185]) (by simp) (by simp [a184, g2]) (by simp [a5, g3]) ?_ ?_ (by simp; omega) (by omega)).mono ?_
  · exact (S0.gr hn0 (hG _ _)).loop (q := Q) (by simp [a185, g1]) _
  · repeat' first | exact hf | apply Heap.Fr.bump | apply Heap.Fr.set
    all_goals (simp <;> omega)
  · rintro x s2 ⟨rfl, r1, r2, r3, r4, r5, r6, r7⟩
    simp at r3
    exact ⟨rfl, r1, r2, rfl, by omega, r4, r5, r6, r7, r2⟩
end Go.Proofs.YtlddgfkdicgbeaaGreatDoor
/- The normal form of the years that are kept, by the program. -/
namespace Go.Proofs.YtlddgfkdicgbeaaGreatDoor
open Go Go.Em
set_option maxRecDepth 100000
theorem kill_next : ∀ (ks : List Nat) (h : Heap), (h.kill ks).next = h.next
  | [], _ => rfl
  | k :: ks, h => by rw [Heap.kill, kill_next ks]; rfl
theorem kill_raw : ∀ (ks : List Nat) (h : Heap) (q : Nat), q ∉ ks → (h.kill ks).raw q = h.raw q
  | [], _, _, _ => rfl
  | k :: ks, h, q, hq => by
    rw [Heap.kill, kill_raw ks _ q (fun hh => hq (List.mem_cons_of_mem _ hh)), Heap.raw_set_ne _ _ (fun hh => hq (by rw [hh]; exact List.mem_cons_self))]
theorem kill_fr : ∀ (ks : List Nat) (h : Heap), h.Fr → (∀ k, k ∈ ks → k < h.next) → (h.kill ks).Fr
  | [], _, hf, _ => hf
  | k :: ks, h, hf, hk => by
    rw [Heap.kill]
    exact kill_fr ks _ (hf.set _ (hk k List.mem_cons_self)) fun j hj => hk j (List.mem_cons_of_mem _ hj)
theorem cool_facts (ks : List Nat) (h : Heap) (hf : h.Fr) (B : Nat) (hB : B ≤ h.next) (hk : ∀ k, k ∈ ks → k < B) : (h.cool ks).next = h.next ∧ (h.cool ks).Fr ∧ ∀ q, B ≤ q → (h.cool ks).get q = h.get q := by
  refine ⟨kill_next ks h, kill_fr ks h hf fun k hk' => by have := hk k hk'; omega, fun q hq => ?_⟩
  have hq' : q ∉ ks := fun hh => by have := hk q hh; omega
  show Heap.get (h.cool ks) q = h.get q
  have e : (h.cool ks).raw q = h.raw q := kill_raw ks h q hq'
  unfold Heap.get
  rw [e]
theorem call_frz2 {pg : Pg} {R : Rc} {f : FuncId} {a : D} {args bs : List D} {ks : List Nat} {h : Heap} {o : Out} (hs : pg.sh f = false) (ha : each (Go.Em.frz h depth) (a :: args) = some (bs, ks)) (x : pureCall R f bs = some o) (hf : h.Fr) {B : Nat} (hB : B ≤ h.next) (hk : ∀ k, k ∈ ks → k < B) :
    ∃ h', call pg R f (a :: args) h = some (o, h') ∧ h'.next = h.next ∧ h'.Fr ∧ ∀ q, B ≤ q → h'.get q = h.get q := by
  have e : call pg R f (a :: args) h = some (o, if (ks.isEmpty || o.d.flat) = true then h else h.cool ks) := by
    simp only [call, hs, ha, pureA, pureS, x, orS, Option.map_some, Bool.false_eq_true, if_false]
  refine ⟨_, e, ?_⟩
  by_cases hc : (ks.isEmpty || o.d.flat) = true
  · rw [if_pos hc]; exact ⟨rfl, hf, fun _ _ => rfl⟩
  · rw [if_neg hc]; exact cool_facts ks h hf B hB hk
theorem endsL_fs {a b : List Rn} {x : EE} (h : x ∈ Runs.endsL a b) : -1 ≤ x.f ∧ x.f ≤ 1 ∧ -1 ≤ x.s ∧ x.s ≤ 1 := by
  rcases List.mem_append.1 h with h | h
  · obtain ⟨r, _, hx⟩ := List.mem_flatMap.1 h
    rcases List.mem_cons.1 hx with rfl | hx
    · simp
    · rw [List.mem_singleton.1 hx]; simp
  · obtain ⟨r, _, hx⟩ := List.mem_flatMap.1 h
    rcases List.mem_cons.1 hx with rfl | hx
    · simp
    · rw [List.mem_singleton.1 hx]; simp
theorem endsL_len (a b : List Rn) : (Runs.endsL a b).length ≤ (a.length + b.length) * 2 := by
  have h1 := endA_len (Runs.clips a)
  have h2 := endB_len (Runs.clips b)
  have h3 := clips_le a
  have h4 := clips_le b
  rw [Runs.endsL, List.length_append, h1, h2]; omega
theorem Res.finA {o : Option (Ex × St)} {id : Nat} {R : Rc} {rs : List (ResultVar × Bool × Nat)} {k : St → Option (Ex × St)} {P : Ex → St → Prop} {C : D → Heap → Prop} (h : Res o P) (hk : ∀ x s, P x s → ∃ d h', endH R rs (andThen (blockK id (some (x, s))) k) = some (.ret d, h') ∧ C d h') :
    ∃ d h', endH R rs (andThen (blockK id o) k) = some (.ret d, h') ∧ C d h' := by
  obtain ⟨x, s, rfl, p⟩ := h; exact hk x s p
def ArgR (h : Heap) (da db : D) (a b : List Rn) : Prop := ∀ H, h.Gr H → ∃ ks, each (Go.Em.frz H depth) [da, db] = some ([rnsD a, rnsD b], ks) ∧ ∀ k, k ∈ ks → k < h.next
def bigN : Nat := 8000001 * (3 * 8000000 + 201) + 8000100
open Classical in
set_option maxHeartbeats 16000000 in
theorem comb_sh {fk : Nat} {kept : Bool → Bool → Bool} (hk : KeptF fk kept) (k0 : kept false false = false) {a b T : List Rn} (ha : a.length ≤ 2000000) (hb : b.length ≤ 2000000) {da db : D} {h : Heap} (hz : ArgR h da db a b) (hf : h.Fr) (hT : Runs.NF T) (hTm : ∀ y, Runs.inL T y ↔ kept (decide (Runs.inC a y)) (decide (Runs.inC b y)) = true) {n : Nat} (hn : bigN ≤ n) :
    ∃ d h', (rc pg n).fn 28 [da, db, .fn (.func fk) [] []] h = some (.ret d, h') ∧ (GR h' d T ∧ h'.Fr ∧ h.next ≤ h'.next) := by
  unfold bigN at hn
  obtain ⟨m, rfl, e⟩ := fn_body (pg := pg) (f := 28) (args := [da, db, .fn (.func fk) [] []]) (h := h) (show 0 < n by omega) rfl rfl
  rw [e]
  have hfr : ∀ j, h.raw (h.next + j) = none := fun j => hf _ (by omega)
  obtain ⟨E, hp, ho, hc⟩ := ends_run a b ha hb (n := m) (by omega)
  obtain ⟨c1, c2⟩ := Runs.combL_ok kept k0 hp ho
  have hTE : Runs.combL kept E = T := Runs.nf_ext c1 hT fun y => (c2 y).trans (hTm y).symm
  have hEl : E.length ≤ 8000000 := by rw [hp.length_eq]; have := endsL_len a b; omega
  obtain ⟨b0, hb0⟩ : ∃ b0, b0 = h.next := ⟨_, rfl⟩
  obtain ⟨H, hH⟩ : ∃ H, H = (((((((((((h.bump 46).set (b0 + 5) (some (Blk.cells 42 [D.fn (Fn.func fk) [] []]))).bump 46).set (b0 + 53) (some (Blk.cells 22 [D.val (Value.slice none 0 0)]))).bump 46).set (b0 + 100) (some (Blk.cells 3 [D.val (Value.int IntKind.i64 0)]))).set (b0 + 101) (some (Blk.cells 3 [D.val (Value.int IntKind.i64 0)]))).set (b0 + 102) (some (Blk.cells 3 [D.val (Value.int IntKind.i64 0)]))).set (b0 + 100) (some (Blk.cells 3 [D.val (Value.int IntKind.i64 (-1000000000))]))).set (b0 + 101) (some (Blk.cells 3 [D.val (Value.int IntKind.i64 0)]))).set (b0 + 102) (some (Blk.cells 3 [D.val (Value.int IntKind.i64 0)]))).bump 46 := ⟨_, rfl⟩
  have hfr' : ∀ j, h.raw (b0 + j) = none := fun j => by rw [hb0]; exact hfr j
  have hG : h.Gr H := by
    rw [hH, hb0]
    repeat' first | exact Heap.Gr.refl _ | refine Heap.Gr.bump ?_ _ | refine Heap.Gr.set ?_ _ (by omega) ?_
    all_goals (simp <;> omega)
  have hHn : H.next = b0 + 184 := by rw [hH, hb0]; simp
  have hHf := hG.fr hf
  obtain ⟨ks, hz1, hz2⟩ := hz H hG
  obtain ⟨h4, hcall, n4, f4, g4⟩ := call_frz2 (pg := pg) (f := 43) rfl hz1 hc hHf (B := b0) (by omega) (by rw [hb0]; exact hz2)
  simp [k28, Env.v_ini, D.cells, D.one, hfr', Nat.add_assoc, ← hb0, ← hH, hcall]
  refine Res.finA (P := fun x s => x = .normal ∧ ∃ (X : Env 46) (h' : Heap) (dl : D), s = ⟨X.l, h', [.mark (b0 + 184)]⟩ ∧ X.v 7 = .ptr (b0 + 53) 0 ∧ h'.get (b0 + 184) = some .mark ∧ h'.get (b0 + 53) = some (.cells 22 [dl]) ∧ GR h' dl T ∧ h'.Fr ∧ b0 + 184 < h'.next) (Res.rangeF rfl (f := 83) (fs := []) (cs := [.eref [ensD E]]) (by simp) f4 ?_) ?_
  · obtain ⟨X, hX⟩ : ∃ X : Env 46, X = (((((((((Env.ini 46 [da, db, D.fn (Fn.func fk) [] []]).upd 5 (D.ptr (b0 + 5) 0)).upd 6 (D.val (Value.slice none 0 0))).upd 7 (D.ptr (b0 + 53) 0)).upd 8 (D.ptr (b0 + 100) 0)).upd 9 (D.ptr (b0 + 101) 0)).upd 10 (D.ptr (b0 + 102) 0)).upd 12 da).upd 13 db).upd 14 (D.fn (Fn.func 83) [] [D.eref [ensD E]]) := ⟨_, rfl⟩
    rw [← hX]
    obtain ⟨H5, hH5⟩ : ∃ H5, H5 = (((h4.bump 2).set h4.next (some .mark)).set (h4.next + 1) (some (.loop (CbL X h4.next)))) := ⟨_, rfl⟩
    have g5 : ∀ q B, b0 ≤ q → q < b0 + 184 → H.get q = some B → H5.get q = some B := fun q B h1 h2 h3 => by
      rw [hH5, Heap.get_set, if_neg (by omega), Heap.get_set, if_neg (by omega), Heap.get_bump', g4 q h1]; exact h3
    have hJ : CbJ X b0 fk kept T E H5 := by
      refine ⟨?_, ?_, g5 _ _ (by omega) (by omega) (by rw [hH]; simp), .val (.slice none 0 0), [], -1000000000, 0, 0, g5 _ _ (by omega) (by omega) (by rw [hH]; simp), .inl ⟨rfl, rfl⟩, g5 _ _ (by omega) (by omega) (by rw [hH]; simp), g5 _ _ (by omega) (by omega) (by rw [hH]; simp), g5 _ _ (by omega) (by omega) (by rw [hH]; simp), hTE, by simpa using hEl, Runs.nf_nil, fun r hr => by simp at hr, by omega, ho, fun x hx => ?_, by omega, by omega, by omega, by omega⟩
      · rw [hH5, n4, hHn]; simp
      · rw [hH5, n4, hHn]; simp
      · have hx' := hp.mem_iff.1 hx
        obtain ⟨y1, y2⟩ := Runs.endsL_mem hx'
        obtain ⟨y3, y4, y5, y6⟩ := endsL_fs hx'
        have hF : Runs.FAR = 1000000000 := rfl
        exact ⟨by omega, by omega, y3, y4, y5, y6⟩
    obtain ⟨d, h6, e6, J6, F6⟩ := iterE_run (cb_iter X b0 fk kept hk T (by simp [hX]) (by simp [hX]) (by simp [hX]) (by simp [hX]) (by simp [hX])) E hEl hJ (by
        rw [hH5]
        refine ((f4.bump 2).set _ ?_).set _ ?_ <;> simp) (by rw [hH5]; simp; omega) (n := m) (by omega)
    obtain ⟨j1, j2, j3, dl, L, fr, f, s, k1, k2, k3, k4, k5, kT, _⟩ := J6
    have hLT : L = T := kT
    subst hLT
    have hq : (b0 + 184) + 1 = b0 + 185 := rfl
    have hn4 : h4.next = b0 + 184 := by rw [n4, hHn]
    rw [hH5, hn4] at e6
    dsimp only
    rw [hn4]
    refine ⟨d, h6, CbL X (b0 + 184), e6, j1, (show LoopState.ready ≠ LoopState.busy by decide), rfl, rfl, X, _, dl, rfl, by simp [hX], ?_, ?_, ?_, ?_, ?_⟩
    · rw [Heap.get_set, if_neg (by omega)]; exact j2
    · rw [Heap.get_set, if_neg (by omega)]; exact k1
    · exact k2.set (k2.off j1 (fun _ h => by cases h)) _
    · have := Heap.raw_of_get j1
      refine F6.set _ ?_
      apply Decidable.byContradiction
      intro hn
      rw [F6 (b0 + 185) (by omega)] at this
      cases this
    · have := Heap.raw_of_get j1
      rw [Heap.next_set']
      apply Decidable.byContradiction
      intro hn
      rw [F6 (b0 + 185) (by omega)] at this
      cases this
  · rintro x s ⟨rfl, X, h', dl, rfl, v7, gm, g53, G, F, N⟩
    simp [v7, g53, gm]
    refine ⟨_, _, ⟨rfl, rfl⟩, (G.bump _).set (G.off gm (fun _ h => by cases h)) _, ?_, by simp; omega⟩
    refine (F.bump _).set _ ?_
    simp; omega
end Go.Proofs.YtlddgfkdicgbeaaGreatDoor
/- Normal, Union, Common and Less, by the program. -/
namespace Go.Proofs.YtlddgfkdicgbeaaGreatDoor
open Go Go.Em
set_option maxRecDepth 100000
def AR (h : Heap) (d : D) (L : List Rn) : Prop := d = rnsD L ∨ GR h d L
theorem rns_frz (L : List Rn) (h : Heap) : Go.Em.frz h 24 (rnsD L) = some (rnsD L, []) := by
  have := rn_can L
  unfold rnsD Go.Em.frz
  rw [if_pos (by simp [this])]
theorem AR.frz {h : Heap} {d : D} {L : List Rn} (g : AR h d L) {H : Heap} (w : h.Gr H) : ∃ ks, Go.Em.frz H 24 d = some (rnsD L, ks) ∧ ∀ k, k ∈ ks → k < h.next := by
  rcases g with rfl | ⟨rfl, rfl⟩ | ⟨k, rfl, g, hk⟩
  · exact ⟨[], rns_frz L H, fun k hk => by simp at hk⟩
  · exact ⟨[], rfl, fun k hk => by simp at hk⟩
  · refine ⟨k :: [], ?_, fun j hj => by rw [List.mem_singleton.1 hj]; exact hk⟩
    have hea := each_canon H 22 (L.flatMap rnC) (canonL_flatMap rnC (fun c => by simp [rnC]) L)
    have hc : (L.flatMap rnC).take (L.length * 2) = L.flatMap rnC := List.take_of_length_le (by rw [cells_rn]; omega)
    show Go.Em.frz H (23 + 1) _ = _
    rw [frz_slr, w.get hk, g, frzS_cells]
    simp only [List.drop_zero, hc, hea, Option.map_some, rn_chunk L _ rfl, Nat.zero_add]
    rw [if_pos ⟨by rw [cells_rn]; omega, by omega⟩]; rfl
theorem ArgR_of {h : Heap} {da db : D} {a b : List Rn} (ga : AR h da a) (gb : AR h db b) : ArgR h da db a b := by
  intro H w
  obtain ⟨k1, h1, h2⟩ := ga.frz w
  obtain ⟨k2, h3, h4⟩ := gb.frz w
  refine ⟨k1 ++ (k2 ++ []), ?_, fun k hk => ?_⟩
  · show each (Go.Em.frz H 24) [da, db] = _
    simp only [each, h1, h3]
  · rcases List.mem_append.1 hk with hk | hk
    · exact h2 k hk
    · rw [List.append_nil] at hk; exact h4 k hk
theorem AR.bump {h : Heap} {d : D} {L : List Rn} (g : AR h d L) (n : Nat) : AR (h.bump n) d L := g.imp id fun g => g.bump n
theorem nil_AR (h : Heap) : AR h (.val (.slice none 0 0)) [] := .inr (.inl ⟨rfl, rfl⟩)
theorem kN : KeptF 29 (fun x _ => x) := ⟨rfl, rfl, fun n hn x y => by
  obtain ⟨m, rfl, e⟩ := body (pg := pg) (f := 29) (args := [D.bool x, D.bool y]) (show 0 < n by omega) rfl rfl
  rw [e]
  simp [k29, Env.v_ini]⟩
set_option maxHeartbeats 4000000 in
theorem norm_sh {a : List Rn} (ha : a.length ≤ 2000000) {da : D} {h : Heap} (ga : AR h da a) (hf : h.Fr) {n : Nat} (hn : bigN + 1 ≤ n) : ∃ d h', (rc pg n).fn 10 [da] h = some (.ret d, h') ∧ (GR h' d (Runs.rnorm a) ∧ h'.Fr ∧ h.next ≤ h'.next) := by
  obtain ⟨m, rfl, e⟩ := fn_body (pg := pg) (f := 10) (args := [da]) (h := h) (show 0 < n by omega) rfl rfl
  rw [e]
  obtain ⟨H, hH⟩ : ∃ H, H = (h.bump 5).bump 5 := ⟨_, rfl⟩
  obtain ⟨r1, r2⟩ := Runs.rnorm_ok a
  obtain ⟨d, h', c, g1, g2, g3⟩ := comb_sh kN rfl (T := Runs.rnorm a) (b := []) ha (by simp) (da := da) (db := .val (.slice none 0 0)) (h := H) (ArgR_of (by rw [hH]; exact (ga.bump 5).bump 5) (nil_AR H)) (by rw [hH]; exact (hf.bump 5).bump 5) r1 (fun y => by rw [r2]; simp) (n := m) (by omega)
  have cs := call_sh (pg := pg) (f := 28) rfl c
  have hHn : H.next = h.next + 10 := by rw [hH]; simp
  simp [k10, Env.v_ini, ← hH, cs]
  exact ⟨d, _, ⟨rfl, rfl⟩, g1, g2, by omega⟩
end Go.Proofs.YtlddgfkdicgbeaaGreatDoor
/- A run is put into a set, by the document. -/
namespace Go.Proofs.YtlddgfkdicgbeaaGreatDoor
open Go Go.Em
set_option maxRecDepth 100000
end Go.Proofs.YtlddgfkdicgbeaaGreatDoor
/- The document's sets: Normal, Union, Common. -/
namespace Go.Proofs.YtlddgfkdicgbeaaGreatDoor
open Go Go.Em
set_option maxRecDepth 100000
def TN (d : D) (L : List Rn) : Prop := d = rnsD L ∨ (L = [] ∧ d = .val (.slice none 0 0))
theorem TN.frz {d : D} {L : List Rn} (g : TN d L) (h : Heap) : ∃ ks, Go.Em.frz h 24 d = some (rnsD L, ks) := by
  rcases g with rfl | ⟨rfl, rfl⟩
  · exact ⟨_, rns_frz L h⟩
  · exact ⟨[], rfl⟩
theorem putG_len : ∀ (L : List Rn) (r : Rn) (dn : Bool), (Runs.putG L r dn).length ≤ L.length + 1
  | [], r, dn => by rw [Runs.putG]; split <;> simp
  | s :: L, r, dn => by
    have h1 := fun r => putG_len L r dn
    have h2 := putG_len L r true
    rw [Runs.putG, List.length_cons]
    split
    · rw [List.length_cons]; have := h1 r; omega
    · split
      · split
        · rw [List.length_cons]; omega
        · rw [List.length_cons, List.length_cons]
          have h3 : (Runs.putG L r true).length ≤ L.length := putG_lenT L r
          omega
      · have := h1 (min r.1 s.1, max r.2 s.2); omega
where putG_lenT : ∀ (L : List Rn) (r : Rn), (Runs.putG L r true).length ≤ L.length
  | [], r => by rw [Runs.putG, if_pos rfl]; simp
  | s :: L, r => by
    rw [Runs.putG, List.length_cons]
    split
    · rw [List.length_cons]; have := putG_lenT L r; omega
    · split
      · rw [if_pos rfl, List.length_cons]; have := putG_lenT L r; omega
      · have := putG_lenT L (min r.1 s.1, max r.2 s.2); omega
theorem putF_len (L : List Rn) (r : Rn) : (Runs.putF L r).length ≤ L.length + 1 := by
  unfold Runs.putF
  split
  · omega
  · exact putG_len L r false
theorem addL_len (l : List Rn) : ∀ o : List Rn, (Runs.addL o l).length ≤ o.length + l.length := by
  induction l with
  | nil => intro o; exact Nat.le_refl _
  | cons r l ih =>
    intro o
    have := ih (Runs.putF o (Runs.clipR r))
    have h2 := putF_len o (Runs.clipR r)
    show (Runs.addL (Runs.putF o (Runs.clipR r)) l).length ≤ _
    rw [List.length_cons]; omega
end Go.Proofs.YtlddgfkdicgbeaaGreatDoor
