/- Claims with one more that asks for a number of years between two of their marks. -/
import Derived.Test.YtfemldhlanoakaaGreatDoorGw
import Derived.Test.YtfemldhlanoakaaGreatDoorRoom
import Derived.Test.YtfemldhlanoakaaGreatDoorMo1
import Derived.Test.YtfemldhlanoakaaGreatDoorRb
import Derived.Test.YtfemldhlanoakaaGreatDoorCho1
import Derived.Test.YtfemldhlanoakaaGreatDoorWo1
import Derived.Test.YtfemldhlanoakaaGreatDoorRoom
import Derived.Test.YtfemldhlanoakaaGreatDoorBnd
namespace Go.Proofs.YtfemldhlanoakaaGreatDoor
open Go Go.Em Go.Em.Net
set_option maxRecDepth 100000
def oneC (a b n : Int) : Clm := ⟨a, b, n, n, 1⟩
theorem marks_one {l : List Clm} {a b n : Int} (ha : a ∈ marksF l) (hb : b ∈ marksF l) : marksF (l ++ [oneC a b n]) = marksF l := by
  have e : marksF (l ++ [oneC a b n]) = insF (insF (marksF l) a) b := by
    unfold marksF
    rw [List.foldl_append]; rfl
  rw [e]
  have e1 : insF (marksF l) a = marksF l := by unfold insF; rw [if_pos ha]
  rw [e1]
  unfold insF; rw [if_pos hb]
theorem clo_up {l : List Clm} (h0 : chkF l = 0) (hb : badF l = false) {i j : Nat} {z : Int} (hz : cloF l i j = some z) : z ≤ 6500000 := by
  have g := good_movs h0
  have hn := (chk_ok h0).2.2
  have kn := kn_EF g.hin
  have hd := (bad_iff h0).1 hb
  have hB : ∀ i j c, netF l i j = some c → c ≤ 100000 := by
    intro i j c hc
    rcases kn.he i j c hc with ⟨_, rfl⟩ | hm
    · omega
    · obtain ⟨m, hm1, hm2⟩ := List.mem_map.1 hm
      have := g.bd m hm1
      have e : m.mo = c := (Prod.mk.inj (Prod.mk.inj hm2).2).2
      omega
  have := fw_upper (B := 100000) (by omega) hB (fun q hq => hd q (by omega) q hq) (show fw (netF l) (marksF l).length i j = some z from hz)
  omega
set_option maxHeartbeats 4000000 in
theorem one_ok {l : List Clm} (h0 : chkF l = 0) (hb : badF l = false) {a b : Int} (ha : a ∈ marksF l) (hbm : b ∈ marksF l) (hab : a ≠ b) {n : Int} (hf : encM (cloF l) (placeF (marksF l) a) (placeF (marksF l) b) ≠ 1000000000) (h1 : -(encM (cloF l) (placeF (marksF l) b) (placeF (marksF l) a)) ≤ n) (h2 : n ≤ encM (cloF l) (placeF (marksF l) a) (placeF (marksF l) b)) :
    OkW (l ++ [oneC a b n]) ∧ badF (l ++ [oneC a b n]) = false := by
  obtain ⟨hl1, hok, hl3⟩ := chk_ok h0
  have g := good_movs h0
  have hM := marks_one (n := n) ha hbm
  obtain ⟨pa, hpa⟩ : ∃ pa, pa = placeF (marksF l) a := ⟨_, rfl⟩
  obtain ⟨pb, hpb⟩ : ∃ pb, pb = placeF (marksF l) b := ⟨_, rfl⟩
  rw [← hpa, ← hpb] at hf h2
  rw [← hpa, ← hpb] at h1
  have a1 : pa < (marksF l).length := by rw [hpa]; exact (place_at ha).1
  have b1 : pb < (marksF l).length := by rw [hpb]; exact (place_at hbm).1
  have ga : (marksF l).getD pa 0 = a := by rw [hpa]; exact place_getD ha
  have gb : (marksF l).getD pb 0 = b := by rw [hpb]; exact place_getD hbm
  have hne : pa ≠ pb := fun e => hab (by rw [← ga, ← gb, e])
  have c := clo_clsd h0 hb
  have bt := clo_small h0 hb
  obtain ⟨u, hu⟩ := Option.ne_none_iff_exists'.1 (fun e => hf ((enc_far bt).2 e) : cloF l pa pb ≠ none)
  obtain ⟨w, hw⟩ := Option.ne_none_iff_exists'.1 (c.sym (show cloF l pa pb ≠ none by rw [hu]; simp))
  have eu := enc_some hu
  have ew := enc_some hw
  have bu := clo_up h0 hb hu
  have bw := clo_up h0 hb hw
  rw [eu] at h2
  rw [ew] at h1
  have hmv : movsF (marksF (l ++ [oneC a b n])) 0 (l ++ [oneC a b n]) = movsF (marksF l) 0 l ++ [⟨(0 + l.length : Nat), false, pa, pb, n⟩, ⟨(0 + l.length : Nat), true, pb, pa, -n⟩] := by
    rw [hM, movs_snoc, hpa, hpb]; rfl
  have hgw : GoodW (marksF (l ++ [oneC a b n])).length (movsF (marksF (l ++ [oneC a b n])) 0 (l ++ [oneC a b n])) := by
    rw [hmv, hM]
    refine ⟨fun m hm => ?_, fun m hm => ?_, fun m hm => ?_, fun v => if v = (if 0 ≤ n then pa else pb) then 6500000 else 100000, fun i => ?_, fun m hm => ?_, fun i => ?_⟩
    · rcases List.mem_append.1 hm with hm | hm
      · exact g.hin m hm
      · rcases (by simpa using hm : m = _ ∨ m = _) with rfl | rfl
        · exact ⟨a1, b1, hne⟩
        · exact ⟨b1, a1, Ne.symm hne⟩
    · rcases List.mem_append.1 hm with hm | hm
      · have := g.bd m hm; omega
      · rcases (by simpa using hm : m = _ ∨ m = _) with rfl | rfl
        · show -6500000 ≤ n ∧ n ≤ 6500000; omega
        · show -6500000 ≤ -n ∧ -n ≤ 6500000; omega
    · rcases List.mem_append.1 hm with hm | hm
      · obtain ⟨m', q1, q2, q3⟩ := g.sym m hm
        exact ⟨m', List.mem_append_left _ q1, q2, q3⟩
      · rcases (by simpa using hm : m = _ ∨ m = _) with rfl | rfl
        · exact ⟨⟨(0 + l.length : Nat), true, pb, pa, -n⟩, List.mem_append_right _ (by simp), rfl, rfl⟩
        · exact ⟨⟨(0 + l.length : Nat), false, pa, pb, n⟩, List.mem_append_right _ (by simp), rfl, rfl⟩
    · show 0 ≤ if i = (if 0 ≤ n then pa else pb) then (6500000 : Int) else 100000
      split <;> omega
    · show m.mo ≤ if m.fr = (if 0 ≤ n then pa else pb) then (6500000 : Int) else 100000
      rcases List.mem_append.1 hm with hm | hm
      · have := (g.bd m hm).2
        split <;> omega
      · rcases (by simpa using hm : m = _ ∨ m = _) with rfl | rfl
        · show n ≤ if pa = (if 0 ≤ n then pa else pb) then (6500000 : Int) else 100000
          by_cases hn : 0 ≤ n
          · rw [if_pos hn, if_pos rfl]; omega
          · split <;> omega
        · show -n ≤ if pb = (if 0 ≤ n then pa else pb) then (6500000 : Int) else 100000
          by_cases hn : 0 ≤ n
          · split <;> omega
          · rw [if_neg hn, if_pos rfl]; omega
    · have q1 := wsum_one (if 0 ≤ n then pa else pb) 6500000 100000 (by omega) (by omega) (marksF l).length
      have q2 : (if i = (if 0 ≤ n then pa else pb) then (6500000 : Int) else 100000) ≤ 6500000 := by split <;> omega
      show (if i = (if 0 ≤ n then pa else pb) then (6500000 : Int) else 100000) + wsum (fun v => if v = (if 0 ≤ n then pa else pb) then 6500000 else 100000) (marksF l).length ≤ 19400000
      omega
  have hW : OkW (l ++ [oneC a b n]) := by
    refine ⟨by simp; omega, by rw [hM]; exact hl3, hgw, fun q hq => ?_⟩
    rcases List.mem_append.1 hq with hq | hq
    · have := ok_years (hok q hq); omega
    · obtain rfl : q = oneC a b n := by simpa using hq
      show -100000000000 ≤ n ∧ n ≤ 100000000000
      omega
  refine ⟨hW, (badw_iff hW).2 fun k _ i hi => ?_⟩
  obtain ⟨F, hn1, hn2⟩ := att_ok h0 hb a1 b1 (n := n) hf (by rw [ew]; omega) (by rw [eu]; omega)
  obtain ⟨ok, dall⟩ := fillN_ok F c bt (clo_out h0) [] (marksF l).length (Nat.le_refl _)
  have hk : ∀ i j z, i < (marksF l).length → j < (marksF l).length → cloF l i j = some z → attY l pa pb n j ≤ attY l pa pb n i + z := fun i j z hi hj hz => ok.kept i j z (dall i hi) (dall j hj) hz
  have ey : ∀ q, (attS pa pb n).dt q = true → attY l pa pb n q = (attS pa pb n).y q := fun q hq => by
    have := (fillN_keep (A := encM (cloF l)) (n := (marksF l).length) (p := []) (s := attS pa pb n) (k := 0) (q := q) hq (marksF l).length).2
    rw [Nat.zero_add] at this
    exact this
  have ya : attY l pa pb n pa = 0 := by
    rw [ey pa (by show (if pa = pb then true else if pa = pa then true else false) = true; simp)]
    show (if pa = pb then n else if pa = pa then 0 else 0) = _
    simp [hne]
  have yb : attY l pa pb n pb = n := by
    rw [ey pb (by show (if pb = pb then true else if pb = pa then true else false) = true; simp)]
    show (if pb = pb then n else if pb = pa then 0 else 0) = _
    simp
  have kn := kn_EF hgw.hin
  have kl := kn_EF g.hin
  refine pot_diag (p := attY l pa pb n) (fun x y z hz => ?_) (kn.diag i hi) k
  rcases kn.he x y z hz with ⟨rfl, rfl⟩ | hm
  · omega
  · rw [hmv] at hm
    obtain ⟨m, hm1, hm2⟩ := List.mem_map.1 hm
    have e1 : m.fr = x := (Prod.mk.inj hm2).1
    have e2 : m.to_ = y := (Prod.mk.inj (Prod.mk.inj hm2).2).1
    have e3 : m.mo = z := (Prod.mk.inj (Prod.mk.inj hm2).2).2
    rcases List.mem_append.1 hm1 with hm1 | hm1
    · obtain ⟨q1, q2, _⟩ := g.hin m hm1
      obtain ⟨cc, r1, r2⟩ := kl.hm (m.fr, m.to_, m.mo) (List.mem_map.2 ⟨m, hm1, rfl⟩)
      obtain ⟨z', r3, r4⟩ := fw_mono (E := netF l) 0 (marksF l).length (show fw (netF l) 0 m.fr m.to_ = some cc from r1)
      rw [Nat.zero_add] at r3
      have := hk m.fr m.to_ z' q1 q2 r3
      simp only at r2
      rw [← e1, ← e2, ← e3]
      omega
    · rcases (by simpa using hm1 : m = _ ∨ m = _) with rfl | rfl
      · rw [← e1, ← e2, ← e3]
        show attY l pa pb n pb ≤ attY l pa pb n pa + n
        omega
      · rw [← e1, ← e2, ← e3]
        show attY l pa pb n pa ≤ attY l pa pb n pb + -n
        omega
end Go.Proofs.YtfemldhlanoakaaGreatDoor
/- Attain, by the document. -/
namespace Go.Proofs.YtfemldhlanoakaaGreatDoor
open Go Go.Em Go.Em.Net
set_option maxRecDepth 100000
theorem nil_frz (l : List Clm) (h : Heap) : each (frz h depth) [clsD l, .val (.slice none 0 0)] = some ([clsD l, intsD []], []) := by
  simp only [each_cons, each_nil]
  have e : frz h depth (clsD l) = some (clsD l, []) := by
    have hc : (clsD l).canon = true := by simp [clsD, canonL_map clD cl_canon l]
    unfold depth frz; rw [if_pos hc]
  rw [e]
  rfl
set_option maxHeartbeats 16000000 in
theorem rattain_run (l : List Clm) (a b n : Int) {f : Nat} (hf : 4200 ≤ f) : ∃ X, pureCall (rc pg f) 7 [clsD l, D.int a, D.int b, D.int n] = some (.ret (.tup [X, D.int (aerF l a b n)])) := by
  obtain ⟨m, rfl, e⟩ := body (pg := pg) (f := 7) (args := [clsD l, D.int a, D.int b, D.int n]) (show 0 < f by omega) rfl rfl
  rw [e]
  have hcl := canonL_map clD cl_canon l
  have cB := fun h => call_of (h := h) (pg := pg) (f := 29) (args := [clsD l, D.int a, D.int b]) rfl (by simp [clsD, hcl]) (rbds_run l a b (f := m) (by omega))
  simp only [clsD] at cB
  by_cases hE : errF l a b = 0
  · obtain ⟨h0, hb, pa, pb, h1, h2, h3, h4, _⟩ := bet_ok hE
    obtain ⟨ma, mb⟩ := err_marks hE
    have hl0 : l ≠ [] := fun e => by subst e; cases ma
    have ed : bdsF l a b = .tup [D.int (-(encM (cloF l) pb pa)), D.int (encM (cloF l) pa pb), D.int 0] := by unfold bdsF; rw [if_pos hE, h3, h4]
    rw [ed] at cB
    have hA : aerF l a b n = if encM (cloF l) pa pb = 1000000000 then 5 else if -(encM (cloF l) pb pa) ≤ n ∧ n ≤ encM (cloF l) pa pb then 0 else 23 := by
      unfold aerF
      rw [if_neg (fun x => x hE), ← h3, ← h4]
    rw [hA]
    by_cases q1 : encM (cloF l) pa pb = 1000000000
    · have q1' : (encM (cloF l) pa pb == 1000000000) = true := by simp [q1]
      rw [if_pos q1]
      simp [-beq_iff_eq, k7, Env.v_ini, clsD, D.cells, D.one, cB, q1']
    · have q1' : (encM (cloF l) pa pb == 1000000000) = false := by simp [q1]
      rw [if_neg q1]
      by_cases q2 : -(encM (cloF l) pb pa) ≤ n
      · have q2' : ¬ (n < -(encM (cloF l) pb pa)) := by omega
        by_cases q3 : n ≤ encM (cloF l) pa pb
        · have q3' : ¬ (n > encM (cloF l) pa pb) := by omega
          rw [if_pos ⟨q2, q3⟩]
          by_cases hab : a = b
          · have q4 : (a == b) = true := by simp [hab]
            have c30 := fun h => call_frz (h := h) (pg := pg) (f := 30) rfl (nil_frz l h) (chosen_run l (okw h0) hb hl0 [] (by simp) (f := m) (by omega))
            have hcd := dts_canonL (lsF (marksF l) (chrY l []) (marksF l).length)
            simp only [clsD, dtsD] at c30
            have hx := fun H n => each_canon H n _ hcd
            refine ⟨.sl false ((lsF (marksF l) (chrY l []) (marksF l).length).map dtD), ?_⟩
            simp [-beq_iff_eq, -beq_eq_false_iff_ne, k7, Env.v_ini, clsD, D.cells, D.one, cB, q1', q2', q3', q4, c30, hx]
          · have q4 : (a == b) = false := by simp [hab]
            obtain ⟨hW, hbad⟩ := one_ok h0 hb ma mb hab (n := n) (by rw [← h3, ← h4]; exact q1) (by rw [← h3, ← h4]; exact q2) (by rw [← h3, ← h4]; exact q3)
            have hcr := chosen_run (l ++ [oneC a b n]) hW hbad (by simp) [] (by simp) (f := m) (by omega)
            obtain ⟨T, hT⟩ : ∃ T, T = lsF (marksF (l ++ [oneC a b n])) (chrY (l ++ [oneC a b n]) []) (marksF (l ++ [oneC a b n])).length := ⟨_, rfl⟩
            rw [← hT] at hcr
            have hcd := dts_canonL T
            have hl1 := (chk_ok h0).1
            have key : ∀ p : Heap × Nat, ∃ h', p.1.get p.2 = some (.cells 69 (l.flatMap clC ++ [D.int a, D.int b, D.int n, D.int n, D.int 1])) → call pg (rc pg m) 30 [.slr p.2 0 (l.length + 1) 5 none, .val (.slice none 0 0)] p.1 = some (.ret (dtsD T), h') := by
              rintro ⟨H, K⟩
              by_cases hg : H.get K = some (.cells 69 (l.flatMap clC ++ [D.int a, D.int b, D.int n, D.int n, D.int 1]))
              · have hcat : l.flatMap clC ++ [D.int a, D.int b, D.int n, D.int n, D.int 1] = (l ++ [oneC a b n]).flatMap clC := by simp [clC, oneC]
                obtain ⟨ks, hz⟩ := Fz.of (c := none) (l := l ++ [oneC a b n]) (m := l.length + 1) hg (by simp) (by rw [hcat]; exact List.take_of_length_le (by rw [cells_len]; simp))
                obtain ⟨h', e'⟩ := call_frzk (pg := pg) (f := 30) (h := H) (a := .slr K 0 (l.length + 1) 5 none) (args := [.val (.slice none 0 0)]) (bs := [clsD (l ++ [oneC a b n]), intsD []]) (ks := ks) rfl (by
                  simp only [each_cons, each_nil]
                  have : depth = 24 := rfl
                  rw [this, hz]
                  simp [eachK, intsD]) hcr
                exact ⟨h', fun _ => e'⟩
              · exact ⟨H, fun x => absurd x hg⟩
            obtain ⟨G, hG⟩ := Classical.axiomOfChoice key
            have c30 := fun H K hg => hG (H, K) hg
            simp only [dtsD] at c30
            have h2' := cls_cells l
            have h3' := cls_one l
            have hall : (l.map clD).all (fun e => e.cells.length == 5) = true := by simp [clD, clC, D.cells]
            have hlen : l.length ≠ 0 := fun h => hl0 (List.eq_nil_of_length_eq_zero h)
            have z := fun t hh news k ty cs => appS_zero5 (t := t) (h := hh) (m := l.length) (news := news) (k := k) (ty := ty) (cs := cs) (by omega) (by unfold room; omega) (by unfold maxLen; omega)
            have z2 := fun t hh news k => appS_none (t := t) (et := 69) (sz := 5) (bytes := 40) (h := hh) (m := 1) (news := news) (k := k) (n := l.length) (cs := l.flatMap clC) (cells_len l) (by omega) (by unfold room; omega) (by unfold maxLen; omega)
            have hx := fun H n => each_canon H n _ hcd
            refine ⟨dtsD T, ?_⟩
            simp [-beq_iff_eq, -beq_eq_false_iff_ne, k7, Env.v_ini, clsD, clD, clC, D.cells, D.one, cB, q1', q2', q3', q4, zerosD, apK_some, z, z2, hall, h2', h3', hlen, List.range_succ, c30, dtsD, hx]
        · have q3' : (n > encM (cloF l) pa pb) := by omega
          rw [if_neg (fun x => q3 x.2)]
          simp [-beq_iff_eq, -beq_eq_false_iff_ne, k7, Env.v_ini, clsD, D.cells, D.one, cB, q1', q2', q3']
      · have q2' : (n < -(encM (cloF l) pb pa)) := by omega
        rw [if_neg (fun x => q2 x.1)]
        simp [-beq_iff_eq, -beq_eq_false_iff_ne, k7, Env.v_ini, clsD, D.cells, D.one, cB, q1', q2']
  · have ed : bdsF l a b = .tup [D.int 0, D.int 0, D.int (errF l a b)] := by unfold bdsF; rw [if_neg hE]
    have q : (errF l a b != 0) = true := by simpa using hE
    have hA : aerF l a b n = errF l a b := by unfold aerF; rw [if_pos hE]
    rw [ed] at cB
    rw [hA]
    simp [-bne_iff_ne, k7, Env.v_ini, clsD, D.cells, D.one, cB, q]
end Go.Proofs.YtfemldhlanoakaaGreatDoor
/- Attain agrees with the document: the law, by the evaluator. -/
namespace Go.Proofs.YtfemldhlanoakaaGreatDoor
open Go Go.Em Go.Em.Net
set_option maxRecDepth 100000
set_option maxHeartbeats 16000000 in
theorem attains_law (l : List Clm) (a b n : Int) {f : Nat} (hf : 8000 ≤ f) : pureCall (rc pg f) 3 [clsD l, .agg [D.int a, D.int b, D.int n]] = some (.ret (D.bool true)) := by
  obtain ⟨m, rfl, e⟩ := body (pg := pg) (f := 3) (args := [clsD l, .agg [D.int a, D.int b, D.int n]]) (show 0 < f by omega) rfl rfl
  rw [e]
  have hsn := fun h => @sane_call m (by omega) h
  have hpa : pureA (rc pg m) 8 [] [] = some (.ret (D.bool true)) := by
    have s8 : pg.sh 8 = false := rfl
    have h := hsn Heap.empty
    unfold call at h
    rw [if_neg (by rw [s8]; simp)] at h
    simp only [each_nil] at h
    cases hp : pureA (rc pg m) 8 [] [] with
    | none => rw [hp] at h; simp at h
    | some o =>
      rw [hp] at h
      simp at h
      rw [h]
  have hcl := canonL_map clD cl_canon l
  have hca : D.canonL [clsD l, D.int a, D.int b, D.int n] = true := by simp [clsD, hcl]
  obtain ⟨X, e7⟩ := rattain_run l a b n (f := m) (by omega)
  have c7 := fun h => call_of (h := h) (pg := pg) (f := 7) rfl hca e7
  simp only [clsD] at c7
  by_cases hA : aerF l a b n = 0
  · obtain ⟨L, a1, a2, a3, a4, a5, a6, a7, a8⟩ := attain_ok (l := l) (a := a) (b := b) (n := n) (f := m) (by omega) hA
    have c6 := fun h => call_of (h := h) (pg := pg) (f := 6) rfl hca a1
    have s8 : pg.sh 8 = false := rfl
    have s9 : pg.sh 9 = false := rfl
    have s10 : pg.sh 10 = false := rfl
    have c9 := @rkeep_run l L (by omega) m (by omega)
    have c10a := @yof_run L (by omega) a m (by omega)
    have c10b := @yof_run L (by omega) b m (by omega)
    have hcd := dts_canonL L
    have x4 : IntKind.i64.wrap (yOf L b - yOf L a) = n := by rw [← a3]; exact wrap_i64 (by omega) (by omega)
    rw [a2] at c9
    rw [hA] at c7
    simp only [clsD, dtsD] at c6 c9 c10a c10b
    simp [-beq_eq_false_iff_ne, k3, Env.v_ini, clsD, dtsD, D.cells, D.one, c6, c7, dcore_f, s8, s9, s10, c9, c10a, c10b, hcl, hcd, x4, hpa]
  · have c6 := fun h => call_of (h := h) (pg := pg) (f := 6) rfl hca (att_err (l := l) (a := a) (b := b) (n := n) (f := m) (by omega) hA)
    have q : (aerF l a b n != 0) = true := by simpa using hA
    simp only [clsD] at c6
    simp [-bne_iff_ne, k3, Env.v_ini, clsD, D.cells, D.one, c6, c7, q, hsn]
end Go.Proofs.YtfemldhlanoakaaGreatDoor
