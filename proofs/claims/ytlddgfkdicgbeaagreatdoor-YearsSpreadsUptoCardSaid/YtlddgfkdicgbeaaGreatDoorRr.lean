/- Spread, by the program and by the document; the law of spreads. -/
import Derived.Test.YtlddgfkdicgbeaaGreatDoorRp
namespace Go.Proofs.YtlddgfkdicgbeaaGreatDoor
open Go Go.Em
set_option maxRecDepth 100000
theorem mix_end (T : List Rn) (a b : Int) : mixL T a b T.length = T.map (spr a b) := by unfold mixL; rw [List.take_length, List.drop_length, List.append_nil]
theorem mix_zero (T : List Rn) (a b : Int) : mixL T a b 0 = T := by unfold mixL; simp
set_option maxHeartbeats 8000000 in
theorem spread_run (l : List Rn) (hl : l.length ≤ 2000000) (a b : Int) {n : Nat} (hn1 : bigN + 100 ≤ n) : pureCall (rc pg n) 23 [rnsD l, D.int a, D.int b] = some (.ret (rnsD (sprF l a b))) := by
  have hb9 : 4000100 ≤ bigN := by decide
  obtain ⟨m, rfl, e⟩ := body (pg := pg) (f := 23) (args := [rnsD l, D.int a, D.int b]) (show 0 < n by omega) rfl rfl
  rw [e]
  unfold sprF
  by_cases h1 : a < -1000000000
  · rw [if_pos (.inl h1)]
    simp [k23, Env.v_ini, rnsD, h1]
  · by_cases h2 : b < a
    · rw [if_pos (.inr (.inl h2))]
      simp [k23, Env.v_ini, rnsD, h1, h2]
    · by_cases h3 : 1000000000 < b
      · rw [if_pos (.inr (.inr h3))]
        simp [k23, Env.v_ini, rnsD, h1, h2, h3]
      · rw [if_neg (by omega)]
        obtain ⟨H, hH⟩ : ∃ H, H = ((Heap.empty.bump 57).bump 57).bump 57 := ⟨_, rfl⟩
        obtain ⟨d, h', c, g1, g2, g3⟩ := norm_sh hl (.inl rfl : AR H (rnsD l) l) (by rw [hH]; exact ((Heap.Fr.empty.bump 57).bump 57).bump 57) (n := m) (by omega)
        have c10 := call_sh (pg := pg) (f := 10) rfl c
        have hT := rnorm_len l
        have hok := (Runs.rnorm_ok l).1.1
        obtain ⟨T, hTT⟩ : ∃ T, T = Runs.rnorm l := ⟨_, rfl⟩
        rw [← hTT] at g1 hT hok ⊢
        simp only [rnsD] at c10
        rcases g1 with ⟨hO0, rfl⟩ | ⟨kk, rfl, hg, hkk⟩
        · subst hO0
          simp [k23, Env.v_ini, rnsD, ev_loop, h1, h2, h3, ← hH, c10]
          refine Res.endsAfter (lp_rule 1 (fun k s => ∃ (x : Env 57) (h : Heap), s = ⟨x.l, h, []⟩ ∧ x.v 7 = .val (.slice none 0 0) ∧ x.v 24 = D.int 0 ∧ x.v 25 = D.int 0 ∧ h.Fr) (fun x s => x = .exit 0 ∧ ∃ (x : Env 57) (h : Heap), s = ⟨x.l, h, []⟩ ∧ x.v 7 = .val (.slice none 0 0) ∧ h.Fr) ?_ 0 m _ (by omega) ⟨_, _, rfl, by simp, by simp, by simp, by first | exact g2 | exact g2.bump _⟩) ?_
          · rintro n _ k s ⟨x, h, rfl, v7, v24, v25, hf⟩
            simp [k23l0, v24, v25]
            exact ⟨_, _, ⟨rfl, rfl⟩, by simp [v7], hf.bump _⟩
          · rintro x s ⟨rfl, y, h, rfl, w7, hf⟩
            obtain ⟨H2, hH2⟩ : ∃ H2, H2 = h.bump 57 := ⟨_, rfl⟩
            obtain ⟨d2, h2', cc, k1, k2, k3⟩ := norm_sh (a := []) (by simp) (nil_AR H2) (by rw [hH2]; exact hf.bump 57) (n := m) (by omega)
            have c11 := call_sh (pg := pg) (f := 10) rfl cc
            obtain ⟨ks, hz⟩ := k1.frz4
            simp only [rnsD] at hz
            simp [w7, ← hH2, c11]
            rw [hz]
            exact ⟨_, rfl⟩
        · simp [k23, Env.v_ini, rnsD, ev_loop, h1, h2, h3, ← hH, c10]
          refine Res.endsAfter (lp_rule 1 (SpI T a b kk) _ (sp_round T a b kk (by omega) hok (by omega) (by omega) (by omega)) T.length m _ (by omega) ⟨_, _, 0, rfl, by omega, by simp [Env.v_ini], by simp [Env.v_ini], by simp, by simp, by simp, by simp, by rw [mix_zero]; first | exact hg | simpa using hg, by first | exact hkk | (simp; omega), by first | exact g2 | exact g2.bump _⟩) ?_
          rintro x s ⟨rfl, y, h, i, rfl, hi, w1, w2, w7, w23, w24, w25, hg', hkk', hf⟩
          obtain rfl : i = T.length := by omega
          rw [mix_end] at hg'
          obtain ⟨H2, hH2⟩ : ∃ H2, H2 = h.bump 57 := ⟨_, rfl⟩
          obtain ⟨d2, h2', cc, k1, k2, k3⟩ := norm_sh (a := T.map (spr a b)) (by simp; omega) (.inr (.inr ⟨kk, by simp, by rw [hH2]; simpa using hg', by rw [hH2]; simp; omega⟩) : AR H2 (.slr kk 0 T.length 2 none) (T.map (spr a b))) (by rw [hH2]; exact hf.bump 57) (n := m) (by omega)
          have c11 := call_sh (pg := pg) (f := 10) rfl cc
          obtain ⟨ks, hz⟩ := k1.frz4
          simp only [rnsD] at hz
          simp [w7, ← hH2, c11]
          rw [hz]
          exact ⟨_, rfl⟩
def RsI (T : List Rn) (a b : Int) (k : Nat) (s : St) : Prop := ∃ (x : Env 55) (h : Heap) (i : Nat) (d : D), s = ⟨x.l, h, []⟩ ∧ i + k = T.length ∧ x.v 1 = D.int a ∧ x.v 2 = D.int b ∧ x.v 7 = rnsD T ∧ x.v 8 = d ∧ x.v 9 = D.int i ∧ TN d (Runs.addL [] ((T.take i).map (spr a b))) ∧ h.Fr
set_option maxHeartbeats 8000000 in
theorem rs_round (T : List Rn) (a b : Int) (hT : T.length ≤ 4000000) (hok : ∀ r, r ∈ T → Runs.okR r) (ha : -1000000000 ≤ a) (hab : a ≤ b) (hb : b ≤ 1000000000) : ∀ n, 4000100 ≤ n → ∀ k s, RsI T a b k s → Res (k24l0.ev ⟨pg, 55, none⟩ (rc pg n) s) (Rnd (RsI T a b) (fun x s => x = .exit 0 ∧ RsI T a b 0 s) k) := by
  rintro n hn k s ⟨x, h, i, d, rfl, hik, v1, v2, v7, v8, v9, hd, hf⟩
  simp only [rnsD] at v7
  by_cases hi : i < T.length
  · obtain ⟨r, hr⟩ : ∃ r, T[i] = r := ⟨_, rfl⟩
    have hro : Runs.okR r := hr ▸ hok _ (List.getElem_mem hi)
    obtain ⟨o1, o2, o3⟩ := hro
    have hF : Runs.FAR = 1000000000 := rfl
    have hsn := addL_snoc [] ((T.take i).map (spr a b)) (spr a b r)
    have hmp : (T.take i).map (spr a b) ++ [spr a b r] = (T.take (i + 1)).map (spr a b) := by rw [take_snoc hi, List.map_append, hr]; rfl
    rw [hmp] at hsn
    have w1 : IntKind.i64.wrap ((i : Int) + 1) = (i : Int) + 1 := wrap_i64 (by omega) (by omega)
    have w2 : IntKind.i64.wrap (r.1 + a) = r.1 + a := wrap_i64 (by omega) (by omega)
    have w3 : IntKind.i64.wrap (r.2 + b) = r.2 + b := wrap_i64 (by omega) (by omega)
    have hfr : ∀ j, h.raw (h.next + j) = none := fun j => hf _ (by omega)
    have hlen := addL_len ((T.take i).map (spr a b)) []
    have hle2 : ((T.take i).map (spr a b)).length ≤ i := by simp; omega
    have hle3 : (Runs.addL [] ((T.take i).map (spr a b))).length ≤ 4000000 := by simp only [List.length_nil] at hlen; omega
    obtain ⟨N1, _⟩ := Runs.addL_ok (l := (T.take i).map (spr a b)) Runs.nf_nil
    have c1 := fun (p : Rn) h => call_of (h := h) (pg := pg) (f := 31) rfl (show D.canonL [.agg [D.int p.1, D.int p.2]] = true by simp) (clip_run p (n := n) (by omega))
    obtain ⟨f1, f2⟩ := Runs.clipR_far (spr a b r)
    have c2 := put_call hd (by omega) N1.1 f1 f2 (n := n) (by omega)
    have e1 : ∀ u v : Int, spr a b r = (u, v) → ∀ h, call pg (rc pg n) 31 [.agg [D.int u, D.int v]] h = some (.ret (.agg [D.int (Runs.clipR (spr a b r)).1, D.int (Runs.clipR (spr a b r)).2]), h) := fun u v he h => by
      have := c1 (spr a b r) h; rw [he] at this ⊢; exact this
    by_cases q1 : r.1 = -1000000000
    · have q1' : (r.1 != -1000000000) = false := by simp [q1]
      by_cases q2 : r.2 = 1000000000
      · have q2' : (r.2 != 1000000000) = false := by simp [q2]
        have c3 := e1 r.1 r.2 (by unfold spr; simp [q1, q2])
        simp [-bne_iff_ne, -bne_eq_false_iff_eq, k24l0, v7, v8, v9, hi, hr, rnD, rnC, D.cells, D.one, hfr, Nat.add_assoc, q1', q2', w1, c3, c2]
        refine ⟨k - 1, by omega, _, _, i + 1, _, rfl, by omega, by simp [v1], by simp [v2], by simp [v7, rnsD], rfl, by simp, .inl (by rw [hsn]; simp), ?_⟩
        repeat' first | exact hf | apply Heap.Fr.bump | apply Heap.Fr.set
        all_goals (simp <;> omega)
      · have q2' : (r.2 != 1000000000) = true := by simp [q2]
        have c3 := e1 r.1 (r.2 + b) (by unfold spr; simp [q1, q2])
        simp [-bne_iff_ne, -bne_eq_false_iff_eq, k24l0, v2, v7, v8, v9, hi, hr, rnD, rnC, D.cells, D.one, hfr, Nat.add_assoc, q1', q2', w1, w3, c3, c2]
        refine ⟨k - 1, by omega, _, _, i + 1, _, rfl, by omega, by simp [v1], by simp [v2], by simp [v7, rnsD], rfl, by simp, .inl (by rw [hsn]; simp), ?_⟩
        repeat' first | exact hf | apply Heap.Fr.bump | apply Heap.Fr.set
        all_goals (simp <;> omega)
    · have q1' : (r.1 != -1000000000) = true := by simp [q1]
      by_cases q2 : r.2 = 1000000000
      · have q2' : (r.2 != 1000000000) = false := by simp [q2]
        have c3 := e1 (r.1 + a) r.2 (by unfold spr; simp [q1, q2])
        simp [-bne_iff_ne, -bne_eq_false_iff_eq, k24l0, v1, v7, v8, v9, hi, hr, rnD, rnC, D.cells, D.one, hfr, Nat.add_assoc, q1', q2', w1, w2, c3, c2]
        refine ⟨k - 1, by omega, _, _, i + 1, _, rfl, by omega, by simp [v1], by simp [v2], by simp [v7, rnsD], rfl, by simp, .inl (by rw [hsn]; simp), ?_⟩
        repeat' first | exact hf | apply Heap.Fr.bump | apply Heap.Fr.set
        all_goals (simp <;> omega)
      · have q2' : (r.2 != 1000000000) = true := by simp [q2]
        have c3 := e1 (r.1 + a) (r.2 + b) (by unfold spr; simp [q1, q2])
        simp [-bne_iff_ne, -bne_eq_false_iff_eq, k24l0, v1, v2, v7, v8, v9, hi, hr, rnD, rnC, D.cells, D.one, hfr, Nat.add_assoc, q1', q2', w1, w2, w3, c3, c2]
        refine ⟨k - 1, by omega, _, _, i + 1, _, rfl, by omega, by simp [v1], by simp [v2], by simp [v7, rnsD], rfl, by simp, .inl (by rw [hsn]; simp), ?_⟩
        repeat' first | exact hf | apply Heap.Fr.bump | apply Heap.Fr.set
        all_goals (simp <;> omega)
  · simp [k24l0, v7, v9, hi]
    exact ⟨_, _, i, d, rfl, by omega, by simp [v1], by simp [v2], by simp [v7, rnsD], by simp [v8], by simp [v9], hd, hf.bump _⟩
set_option maxHeartbeats 8000000 in
theorem rspread_run (l : List Rn) (hl : l.length ≤ 2000000) (a b : Int) {n : Nat} (hn : 10000100 ≤ n) : pureCall (rc pg n) 24 [rnsD l, D.int a, D.int b] = some (.ret (rnsD (sprF l a b))) := by
  obtain ⟨m, rfl, e⟩ := body (pg := pg) (f := 24) (args := [rnsD l, D.int a, D.int b]) (show 0 < n by omega) rfl rfl
  rw [e]
  unfold sprF
  by_cases h1 : a < -1000000000
  · rw [if_pos (.inl h1)]
    simp [k24, Env.v_ini, rnsD, h1]
  · by_cases h3 : 1000000000 < b
    · rw [if_pos (.inr (.inr h3))]
      simp [k24, Env.v_ini, rnsD, h1, h3]
    · by_cases h2 : b < a
      · rw [if_pos (.inr (.inl h2))]
        simp [k24, Env.v_ini, rnsD, h1, h2, h3]
      · rw [if_neg (by omega)]
        have c := fun h => call_of (h := h) (pg := pg) (f := 11) rfl (rns_can l) (rnorm_run l (by omega) (n := m) (by omega))
        have hT := rnorm_len l
        have hok := (Runs.rnorm_ok l).1.1
        obtain ⟨T, hTT⟩ : ∃ T, T = Runs.rnorm l := ⟨_, rfl⟩
        rw [← hTT] at hT hok c ⊢
        simp only [rnsD] at c
        simp [k24, Env.v_ini, rnsD, ev_loop, h1, h2, h3, c]
        refine Res.endsAfter (lp_rule 4000100 (RsI T a b) _ (rs_round T a b (by omega) hok (by omega) (by omega) (by omega)) T.length m _ (by omega) ⟨_, _, 0, .val (.slice none 0 0), rfl, by omega, by simp [Env.v_ini], by simp [Env.v_ini], by simp [rnsD], by simp, by simp, .inr ⟨rfl, rfl⟩, ?_⟩) ?_
        · repeat' first | exact Heap.Fr.empty | apply Heap.Fr.bump
        rintro x s ⟨rfl, y, h, i, d, rfl, hi, w1, w2, w7, w8, w9, hd, hf⟩
        obtain rfl : i = T.length := by omega
        rw [List.take_length] at hd
        obtain ⟨ks, hz⟩ := hd.frz (h.bump 55)
        have e1 : Runs.addL [] (T.map (spr a b)) = Runs.rnorm (T.map (spr a b)) := rfl
        rw [e1] at hz
        simp only [rnsD] at hz
        simp [w8]
        rw [hz]
        exact ⟨_, rfl⟩
end Go.Proofs.YtlddgfkdicgbeaaGreatDoor
/- The law of spreads. -/
namespace Go.Proofs.YtlddgfkdicgbeaaGreatDoor
open Go Go.Em
set_option maxRecDepth 100000
@[simp] theorem atId_sl (b : Bool) (es : List D) : atId (.sl b es) = none := by unfold atId; rfl
theorem sprF_nf (l : List Rn) (a b : Int) : Runs.NF (sprF l a b) := by
  unfold sprF
  split
  · exact Runs.nf_nil
  · exact (Runs.rnorm_ok _).1
set_option maxHeartbeats 8000000 in
theorem spreads_law (l : List Rn) (hl : l.length ≤ 2000000) (a b y : Int) {n : Nat} (hn1 : bigN + 200 ≤ n) (hn : 2020001000 ≤ n) : pureCall (rc pg n) 4 [rnsD l, .agg [D.int a, D.int b], D.int y] = some (.ret (D.bool true)) := by
  obtain ⟨m, rfl, e⟩ := body (pg := pg) (f := 4) (args := [rnsD l, .agg [D.int a, D.int b], D.int y]) (show 0 < n by omega) rfl rfl
  rw [e]
  have c19 := fun h => call_of (h := h) (pg := pg) (f := 19) rfl (rns_can l) (size_run l hl (n := m) (by omega))
  have c20 := fun h => call_of (h := h) (pg := pg) (f := 20) rfl (rns_can l) (rsize_run l hl (n := m) (by omega))
  have p21 := has_run l (by omega) y (n := m) (by omega)
  have p22 := rhas_run l (by omega) y (n := m) (by omega)
  have p23 := spread_run l hl a b (n := m) (by omega)
  have p24 := rspread_run l hl a b (n := m) (by omega)
  have hlen := nf_len' (sprF_nf l a b)
  have p9 := same_run (sprF l a b) (sprF l a b) (by omega) (n := m) (by omega)
  rw [decide_eq_true rfl] at p9
  have pA : pureA (rc pg m) 18 [] [] = some (.ret (D.bool true)) := by
    have h0 := sane_call (n := m) (by omega) Heap.empty
    simp only [call, show pg.sh 18 = false from rfl, each_nil, Bool.false_eq_true, if_false, Option.map_eq_some_iff] at h0
    obtain ⟨o, ho, he⟩ := h0
    rw [ho, (Prod.mk.inj he).1]
  have s21 : pg.sh 21 = false := rfl
  have s22 : pg.sh 22 = false := rfl
  have s23 : pg.sh 23 = false := rfl
  have s24 : pg.sh 24 = false := rfl
  have s9 : pg.sh 9 = false := rfl
  have s18 : pg.sh 18 = false := rfl
  have cl := rn_can l
  have cs := rn_can (sprF l a b)
  simp only [rnsD, szR] at c19 c20 p21 p22 p23 p24 p9
  obtain ⟨z, hz⟩ : ∃ z, z = hasB l y := ⟨_, rfl⟩
  rw [← hz] at p21 p22
  simp [k4, Env.v_ini, rnsD, D.cells, D.one, c19, c20, dcore_f, s21, s22, s23, s24, s9, s18, cl, cs, p21, p22, p23, p24, p9, pA]
end Go.Proofs.YtlddgfkdicgbeaaGreatDoor
