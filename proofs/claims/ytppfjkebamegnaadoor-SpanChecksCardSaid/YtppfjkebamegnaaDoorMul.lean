/- One times a number, by package math/bits. -/
import Derived.Test.YtppfjkebamegnaaDoorKp1
import Derived.Test.YtppfjkebamegnaaDoorEmNet
import Derived.Test.YtppfjkebamegnaaDoorWo1
import Derived.Test.YtppfjkebamegnaaDoorKp1
namespace Go.Proofs.YtppfjkebamegnaaDoor
open Go Go.Em
set_option maxRecDepth 100000
noncomputable def mulOk (m n : Nat) : Bool := match pureCall (rc pg (m + 3)) 124 [.val (.int .u64 1), .val (.int .u64 n)] with
  | some (.ret (.tup [.val (.int .u64 a), .val (.int .u64 b)])) => a == 0 && b == n
  | _ => false
end Go.Proofs.YtppfjkebamegnaaDoor
/- A number, so many times, by package slices. -/
namespace Go.Proofs.YtppfjkebamegnaaDoor
open Go Go.Em
set_option maxRecDepth 100000
end Go.Proofs.YtppfjkebamegnaaDoor
/- Years that are lowered round by round, by the program. -/
namespace Go.Proofs.YtppfjkebamegnaaDoor
open Go Go.Em Go.Em.Net
set_option maxRecDepth 100000
structure Mo where
  cl : Int
  bk : Bool
  fr : Nat
  to_ : Nat
  mo : Int
def moC (m : Mo) : List D := [D.int m.cl, D.bool m.bk, D.int m.fr, D.int m.to_, D.int m.mo]
def moD (m : Mo) : D := .agg (moC m)
def mosD (l : List Mo) : D := .sl false (l.map moD)
def grD (M : List Int) (l : List Mo) : D := .agg [intsD M, mosD l]
def its (mv : List Mv) : Nat → (Nat → Int) → Nat → Int
  | 0, y => y
  | r + 1, y => its mv r (mv.foldl relax y)
def yCs (n : Nat) (y : Nat → Int) : List D := (List.range n).map fun v => D.int (y v)
end Go.Proofs.YtppfjkebamegnaaDoor
/- Years that are lowered round by round, by the program: all rounds; whether claims contradict. -/
namespace Go.Proofs.YtppfjkebamegnaaDoor
open Go Go.Em Go.Em.Net
set_option maxRecDepth 100000
def z0 : Nat → Int := fun _ => 0
end Go.Proofs.YtppfjkebamegnaaDoor
/- Whether claims contradict each other, by the program. -/
namespace Go.Proofs.YtppfjkebamegnaaDoor
open Go Go.Em Go.Em.Net
set_option maxRecDepth 100000
theorem mo_canonL (l : List Mo) : D.canonL (l.map moD) = true := canonL_map _ (fun m => by simp [moD, moC]) l
theorem gr_canon (M : List Int) (l : List Mo) : D.canonL [grD M l] = true := by simp [grD, intsD, mosD, ints_canonL, mo_canonL]
end Go.Proofs.YtppfjkebamegnaaDoor
/- Whether moves contradict each other; the moves along claims. -/
namespace Go.Proofs.YtppfjkebamegnaaDoor
open Go Go.Em Go.Em.Net
set_option maxRecDepth 100000
/-- The moves along the first claims. -/
def placeF (M : List Int) (v : Int) : Nat := M.idxOf v
def movF (M : List Int) (i : Nat) (c : Clm) : List Mo := [⟨i, false, placeF M c.a, placeF M c.b, c.hi⟩, ⟨i, true, placeF M c.b, placeF M c.a, -c.lo⟩]
def movsF (M : List Int) : Nat → List Clm → List Mo
  | _, [] => []
  | i, c :: l => movF M i c ++ movsF M (i + 1) l
theorem movs_snoc (M : List Int) (c : Clm) : ∀ (l : List Clm) (i : Nat), movsF M i (l ++ [c]) = movsF M i l ++ movF M (i + l.length) c
  | [], i => by simp [movsF]
  | a :: l, i => by
    rw [List.cons_append, movsF, movs_snoc M c l (i + 1), movsF, List.append_assoc, List.length_cons]
    congr 3; omega
theorem movs_len (M : List Int) : ∀ (l : List Clm) (i : Nat), (movsF M i l).length = 2 * l.length
  | [], _ => rfl
  | a :: l, i => by rw [movsF, List.length_append, movs_len M l (i + 1)]; simp [movF]; omega
end Go.Proofs.YtppfjkebamegnaaDoor
/- The graph of claims: the claims that may be used (all of them). -/
namespace Go.Proofs.YtppfjkebamegnaaDoor
open Go Go.Em Go.Em.Net
set_option maxRecDepth 100000
theorem every_run (i : Int) {n : Nat} (hn : 1 ≤ n) : pureCall (rc pg n) 52 [D.int i] = some (.ret (D.bool true)) := by
  obtain ⟨m, rfl, e⟩ := body (pg := pg) (f := 52) (args := [D.int i]) (show 0 < n by omega) rfl rfl
  rw [e]
  simp [k52, Env.v_ini]
def eachD : D := .fn (.func 52) [] []
def nil2 : List D := [.val (.slice none 0 0), .val (.slice none 0 0)]
def G0 (l : List Clm) (k : Nat) (s : St) : Prop := ∃ (x : Env 81) (h : Heap) (i ub rb : Nat), s = ⟨x.l, h, []⟩ ∧ i + k = l.length ∧ x.v 0 = clsD l ∧ x.v 1 = eachD ∧ x.v 16 = clsD l ∧ x.v 17 = D.int l.length ∧ x.v 18 = D.int i ∧ x.v 5 = .slr ub 0 i 5 (some l.length) ∧ x.v 4 = .ptr rb 0 ∧ h.get ub = some (.cells 42 ((l.take i).flatMap clC)) ∧ h.get rb = some (.cells 83 nil2) ∧ ub < h.next ∧ rb < h.next ∧ ub ≠ rb ∧ h.Fr
set_option maxHeartbeats 4000000 in
theorem used_round (l : List Clm) (hl : l.length ≤ 400) : ∀ n, 1 ≤ n → ∀ k s, G0 l k s → Res (k51l0.ev ⟨pg, 81, none⟩ (rc pg n) s) (Rnd (G0 l) (fun x s => x = .exit 0 ∧ G0 l 0 s) k) := by
  rintro n hn k s ⟨x, h, i, ub, rb, rfl, hik, v0, v1, v16, v17, v18, v5, v4, hu, hr, un, rn, hne, hf⟩
  simp only [clsD] at v16
  simp only [eachD] at v1
  by_cases hi : i < l.length
  · obtain ⟨c, hc⟩ : ∃ c, l[i] = c := ⟨_, rfl⟩
    have w1 : IntKind.i64.wrap ((i : Int) + 1) = (i : Int) + 1 := wrap_i64 (by omega) (by omega)
    have hfr : ∀ j, h.raw (h.next + j) = none := fun j => hf _ (by omega)
    have n1 : ∀ j, (ub = h.next + j) = False := fun j => by simp; omega
    have n2 : ∀ j, (rb = h.next + j) = False := fun j => by simp; omega
    have n3 : (rb = ub) = False := by simp; omega
    have n4 : ∀ j, (h.next + j = ub) = False := fun j => by simp; omega
    have c47 := fun h => call_of (h := h) (pg := pg) (f := 52) (args := [D.int i]) rfl (by simp) (@every_run i n hn)
    have hsn : (l.take (i + 1)).flatMap clC = (l.take i).flatMap clC ++ clC c := by rw [List.take_add_one, List.getElem?_eq_getElem hi, hc]; simp
    have hz5 : zerosD [.int .i64 0, .int .i64 0, .int .i64 0, .int .i64 0, .int .i64 0] 5 1 = [D.int 0, D.int 0, D.int 0, D.int 0, D.int 0] := rfl
    have happ : ∀ (t : Nat) (h : Heap), appS t 42 5 40 h 1 (clC c) ub 0 i 5 (some l.length) (some (.cells 42 ((l.take i).flatMap clC))) = some (.slr ub 0 (i + 1) 5 (some l.length), h.set ub (some (.cells 42 ((l.take i).flatMap clC ++ clC c)))) := fun t h =>
      appS_cap (by rw [length_flatMap (sz := 5) clC (fun _ => rfl)]; simp; omega) (by omega) (by unfold room; omega) (by unfold maxLen; omega)
    simp only [clC] at happ
    simp [k51l0, v0, v1, v16, v17, v18, v5, v4, hi, hc, clD, clC, happ, hz5, D.cells, D.one, hfr, Nat.add_assoc, n1, n2, n3, n4, hu, hr, c47, w1, apK_some]
    refine ⟨k - 1, by omega, _, _, i + 1, ub, rb, rfl, by omega, by simp [v0], by simp [v1, eachD], by simp [v16, clsD], by simp [v17], by simp, by simp, by simp [v4], ?_, by simp [n2, n3, hr], by simp; omega, by simp; omega, hne, ?_⟩
    · rw [hsn]; simp [clC]
    · repeat' first | exact hf | apply Heap.Fr.bump | apply Heap.Fr.set
      all_goals (simp <;> omega)
  · simp [k51l0, v17, v18, hi]
    exact ⟨_, _, i, ub, rb, rfl, by omega, by simp [v0], by simp [v1, eachD], by simp [v16, clsD], by simp [v17], by simp [v18], by simp [v5], by simp [v4], by simp [hu], by simp [hr], by simp; omega, by simp; omega, hne, hf.bump _⟩
end Go.Proofs.YtppfjkebamegnaaDoor
/- The graph of claims: the moves. -/
namespace Go.Proofs.YtppfjkebamegnaaDoor
open Go Go.Em Go.Em.Net
set_option maxRecDepth 100000
theorem place_at {M : List Int} {v : Int} (hv : v ∈ M) : ∃ h : placeF M v < M.length, M[placeF M v] = v :=
  ⟨List.idxOf_lt_length_iff.2 hv, List.getElem_idxOf _⟩
def G1 (M : List Int) (l : List Clm) (k : Nat) (s : St) : Prop := ∃ (x : Env 81) (h : Heap) (i gb mb rb : Nat), s = ⟨x.l, h, []⟩ ∧ i + k = l.length ∧ x.v 1 = eachD ∧ x.v 38 = clsD l ∧ x.v 39 = D.int l.length ∧ x.v 40 = D.int i ∧ x.v 8 = .ptr gb 0 ∧ x.v 4 = .ptr rb 0 ∧ h.get gb = some (.cells 83 [intsD M, .slr mb 0 (2 * i) 5 (some (2 * l.length))]) ∧ h.get mb = some (.cells 121 ((movsF M 0 (l.take i)).flatMap moC)) ∧ h.get rb = some (.cells 83 nil2) ∧ gb < h.next ∧ mb < h.next ∧ rb < h.next ∧ gb ≠ mb ∧ gb ≠ rb ∧ mb ≠ rb ∧ h.Fr
set_option maxHeartbeats 8000000 in
theorem moves_round (M : List Int) (hM : Rise M) (hml : M.length ≤ 64) (l : List Clm) (hl : l.length ≤ 400) (hin : ∀ c ∈ l, c.a ∈ M ∧ c.b ∈ M ∧ -100000 ≤ c.lo ∧ c.lo ≤ 100000) : ∀ n, 80 ≤ n → ∀ k s, G1 M l k s → Res (k51l1.ev ⟨pg, 81, none⟩ (rc pg n) s) (Rnd (G1 M l) (fun x s => x = .exit 2 ∧ G1 M l 0 s) k) := by
  rintro n hn k s ⟨x, h, i, gb, mb, rb, rfl, hik, v1, v38, v39, v40, v8, v4, hg, hm, hr, gn, mn, rn, d1, d2, d3, hf⟩
  simp only [clsD] at v38
  simp only [eachD] at v1
  simp only [intsD] at hg
  by_cases hi : i < l.length
  · obtain ⟨c, hc⟩ : ∃ c, l[i] = c := ⟨_, rfl⟩
    obtain ⟨ma, mb', lo1, lo2⟩ := hin c (by rw [← hc]; exact List.getElem_mem hi)
    obtain ⟨pa, ea⟩ := place_at ma
    obtain ⟨pb, eb⟩ := place_at mb'
    have w1 : IntKind.i64.wrap ((i : Int) + 1) = (i : Int) + 1 := wrap_i64 (by omega) (by omega)
    have w2 : IntKind.i64.wrap (-c.lo) = -c.lo := wrap_i64 (by omega) (by omega)
    have hfr : ∀ j, h.raw (h.next + j) = none := fun j => hf _ (by omega)
    have n1 : ∀ j, (gb = h.next + j) = False := fun j => by simp; omega
    have n2 : ∀ j, (mb = h.next + j) = False := fun j => by simp; omega
    have n3 : ∀ j, (rb = h.next + j) = False := fun j => by simp; omega
    have m1 : ∀ j, (h.next + j = gb) = False := fun j => by simp; omega
    have m2 : ∀ j, (h.next + j = mb) = False := fun j => by simp; omega
    have d1' : (gb = mb) = False := by simp [d1]
    have d4' : (mb = gb) = False := by simp [Ne.symm d1]
    have d5' : (rb = gb) = False := by simp [Ne.symm d2]
    have d6' : (rb = mb) = False := by simp [Ne.symm d3]
    have s37 : pg.sh 60 = false := rfl
    have c47 := fun h => call_of (h := h) (pg := pg) (f := 52) (args := [D.int i]) rfl (by simp) (@every_run i n (by omega))
    have pla := @place_run M hM (by omega) _ pa n (by omega)
    have plb := @place_run M hM (by omega) _ pb n (by omega)
    rw [ea] at pla
    rw [eb] at plb
    simp only [intsD] at pla plb
    have hcan := ints_canonL M
    have hz5 : zerosD [.int .i64 0, .int .i64 0, .int .i64 0, .int .i64 0, .int .i64 0] 5 1 = [D.int 0, D.int 0, D.int 0, D.int 0, D.int 0] := rfl
    have hz10 : zerosD [.int .i64 0, .bool false, .int .i64 0, .int .i64 0, .int .i64 0] 5 2 = [D.int 0, D.bool false, D.int 0, D.int 0, D.int 0, D.int 0, D.bool false, D.int 0, D.int 0, D.int 0] := rfl
    have hsn : (movsF M 0 (l.take (i + 1))).flatMap moC = (movsF M 0 (l.take i)).flatMap moC ++ (movF M i c).flatMap moC := by
      rw [List.take_add_one, List.getElem?_eq_getElem hi, hc]
      have := movs_snoc M c (l.take i) 0
      rw [Nat.zero_add, List.length_take, Nat.min_eq_left (by omega)] at this
      simp only [Option.toList_some]
      rw [this, List.flatMap_append]
    have happ : ∀ (t : Nat) (h : Heap) (X : List D), appS t 121 5 40 h 2 X mb 0 (2 * i) 5 (some (2 * l.length)) (some (.cells 121 ((movsF M 0 (l.take i)).flatMap moC))) = some (.slr mb 0 (2 * i + 2) 5 (some (2 * l.length)), h.set mb (some (.cells 121 ((movsF M 0 (l.take i)).flatMap moC ++ X)))) := fun t h X =>
      appS_cap (by rw [length_flatMap (sz := 5) moC (fun _ => rfl), movs_len, List.length_take]; omega) (by omega) (by unfold room; omega) (by unfold maxLen; omega)
    simp [k51l1, v1, v38, v39, v40, v8, v4, hi, hc, clD, clC, hz5, hz10, D.cells, D.one, hfr, Nat.add_assoc, n1, n2, n3, m1, m2, d1', d4', d5', d6', hg, hm, hr, c47, w1, w2, dcore_f, s37, hcan, pla, plb, apK_some, happ]
    refine ⟨k - 1, by omega, _, _, i + 1, gb, mb, rb, rfl, by omega, by simp [v1, eachD], by simp [v38, clsD], by simp [v39], by simp, by simp [v8], by simp [v4], by simp [n1, d1', intsD, Nat.mul_add], ?_, by simp [n3, d5', d6', hr], by simp; omega, by simp; omega, by simp; omega, d1, d2, d3, ?_⟩
    · rw [hsn]; simp [n2, d4', movF, moC]
    · repeat' first | exact hf | apply Heap.Fr.bump | apply Heap.Fr.set
      all_goals (simp <;> omega)
  · simp [k51l1, v39, v40, hi]
    exact ⟨_, _, i, gb, mb, rb, rfl, by omega, by simp [v1, eachD], by simp [v38, clsD], by simp [v39], by simp [v40], by simp [v8], by simp [v4], by simp [hg, intsD], by simp [hm], by simp [hr], by simp; omega, by simp; omega, by simp; omega, d1, d2, d3, hf.bump _⟩
end Go.Proofs.YtppfjkebamegnaaDoor
/- The graph of claims, by the program. -/
namespace Go.Proofs.YtppfjkebamegnaaDoor
open Go Go.Em Go.Em.Net
set_option maxRecDepth 100000
def dZ2 (base : Nat) (e : List D) (ts hs : List HK) (h : Heap) (ks : List Nat) (o : Option Out) : Option (D × Heap) := match o with
  | some (.ret d) => if (ks.isEmpty || d.flat || mayKill base e ts hs false ks) = true then some (d, thaw ks d h) else none
  | _ => none
theorem dZ2_ret {base : Nat} {e : List D} {ts hs : List HK} {h : Heap} {ks : List Nat} {d : D} (hk : mayKill base e ts hs false ks = true) : dZ2 base e ts hs h ks (some (.ret d)) = some (d, thaw ks d h) := by
  unfold dZ2; simp [hk]
def dZ (R : Rc) (f : FuncId) (base : Nat) (e : List D) (ts hs : List HK) (h : Heap) (z : Option (D × List Nat)) : Option (D × Heap) := match z with
  | some (a, ks) => dZ2 base e ts hs h ks (pureS R f [a])
  | none => none
theorem dZ_some {R : Rc} {f : FuncId} {base : Nat} {e : List D} {ts hs : List HK} {h : Heap} {a : D} {ks : List Nat} {o : Out} (hp : pureCall R f [a] = some o) : dZ R f base e ts hs h (some (a, ks)) = dZ2 base e ts hs h ks (some o) := by
  unfold dZ; simp [hp]
/-- A call in a drawn region, its argument frozen for good. -/
theorem dcore_y {c : Cfg} {R : Rc} {base : Nat} (d : Option Nat) (f : FuncId) (x : X) (ts hs : List HK) (wt : Nat) (e : List D) (h : Heap) (hs' : c.pg.sh f = false) :
    dcore c R base ⟨⟨none, d, .inr (.fn f [x])⟩, some ts, hs, wt, false⟩ e h = dZ R f base e ts hs h (frz (h.kill (hids base e hs)) depth (rd c.pg.gl e x)) := by
  unfold dcore dZ
  simp only [G.want, hs', Bool.false_eq_true, if_false, List.map_cons, List.map_nil, each_cons, each_nil]
  cases hz : frz (h.kill (hids base e hs)) depth (rd c.pg.gl e x) with
  | none => unfold eachK; rfl
  | some p =>
    obtain ⟨a, ks⟩ := p
    simp only [eachK_some, List.append_nil, pureA_cons]
    cases hp : pureS R f [a] with
    | none => unfold dZ2; rfl
    | some o =>
      unfold dZ2
      cases o <;> simp [Out.isPan, Out.d]
theorem two_ok (l : List Clm) : D.canonL [clsD l, eachD] = true := by simp [clsD, eachD, canonL_map clD cl_canon l]
set_option maxHeartbeats 8000000 in
theorem graph_run (l : List Clm) (h0 : chkF l = 0) {n : Nat} (hn : 1000 ≤ n) : pureCall (rc pg n) 51 [clsD l, eachD] = some (.ret (grD (marksF l) (movsF (marksF l) 0 l))) := by
  obtain ⟨m, rfl, e⟩ := body (pg := pg) (f := 51) (args := [clsD l, eachD]) (show 0 < n by omega) rfl rfl
  rw [e]
  obtain ⟨hl1, hl2, hl3⟩ := chk_ok h0
  have hok : ∀ c ∈ l, (0 ≤ c.a ∧ c.a ≤ 2048) ∧ (0 ≤ c.b ∧ c.b ≤ 2048) := fun c hc => ok_marks (hl2 c hc)
  have c36 := @marks_run l hok (by omega) m (by omega)
  have s36 : pg.sh 71 = false := rfl
  have hz0 : zerosD [.int .i64 0, .int .i64 0, .int .i64 0, .int .i64 0, .int .i64 0] 5 0 = [] := rfl
  have hz1 : zerosD [.int .i64 0, .bool false, .int .i64 0, .int .i64 0, .int .i64 0] 5 0 = [] := rfl
  have hroom : (40 : Int) * l.length ≤ (room : Int) := by unfold room; omega
  have hroom2 : (40 : Int) * (2 * l.length) ≤ (room : Int) := by unfold room; omega
  have w1 : IntKind.i64.wrap (2 * (l.length : Int)) = 2 * (l.length : Int) := wrap_i64 (by omega) (by omega)
  simp [k51, Env.v_ini, clsD, eachD, hz0, hroom, ev_loop]
  refine Res.endsAfter (lp_rule 1 (G0 l) _ (used_round l hl1) l.length m _ (by omega) ⟨_, _, 0, 96, 4, rfl, by omega, by simp [Env.v_ini, clsD], by simp [Env.v_ini, eachD], by simp [clsD], by simp, by simp, by simp, by simp, by simp, by simp [nil2], by simp, by simp, by omega, ?_⟩) ?_
  · repeat' first | exact Heap.Fr.empty | apply Heap.Fr.bump | apply Heap.Fr.set
    all_goals (simp <;> omega)
  · rintro x s ⟨rfl, x, h, i, ub, rb, rfl, hi, v0, v1, v16, v17, v18, v5, v4, hu, hr, un, rn, hne, hf⟩
    have hil : i = l.length := by omega
    subst hil
    rw [List.take_length] at hu
    simp only [clsD] at v0
    have n1 : ∀ j, (ub = h.next + j) = False := fun j => by simp; omega
    have hfz : ∀ H : Heap, frzS H 23 ub 0 l.length 5 (some (.cells 42 (l.flatMap clC))) = some (clsD l, [ub]) := by
      intro H
      have hle : 0 + l.length * 5 ≤ (l.flatMap clC).length ∧ 0 < 5 := by rw [length_flatMap (sz := 5) clC (fun _ => rfl)]; omega
      have htk : ((l.flatMap clC).drop 0).take (l.length * 5) = l.flatMap clC := List.take_of_length_le (by rw [List.drop_zero, length_flatMap (sz := 5) clC (fun _ => rfl)]; omega)
      rw [frzS_cells, if_pos hle, htk, each_canon H 22 _ (canonL_flatMap clC (fun c => by simp [clC]) l)]
      simp only [Option.map_some]
      rw [chunk_flatMap clC (by omega) (fun _ => rfl) l _ rfl]
      rfl
    obtain ⟨H2, hH2⟩ : ∃ H2, H2 = thaw [ub] (.sl false ((marksF l).map D.int)) (h.bump 81) := ⟨_, rfl⟩
    have hH2n : H2.next = h.next + 81 := by rw [hH2]; unfold thaw; split <;> simp
    have hH2r : ∀ j, j ≠ ub → H2.raw j = h.raw j := by intro j hj; rw [hH2]; unfold thaw; split <;> simp [hj]
    have hH2f : H2.Fr := by intro j hj; rw [hH2r j (by omega)]; exact hf j (by omega)
    have hD : ∀ e : List D, atId (e.getD 5 .junk) = some ub → dZ (rc pg m) 71 h.next e [HK.at 5] [HK.fr 36, HK.fr 8] (h.bump 81) (some (clsD l, [ub])) = some (.sl false ((marksF l).map D.int), H2) := by
      intro e he
      rw [dZ_some c36, dZ2_ret, hH2]
      unfold mayKill
      rw [hids_at e 5 ub [] he]
      simp [n1]
    have hfr2 : ∀ j, H2.raw (h.next + j) = none := fun j => by rw [hH2r _ (by omega)]; exact hf _ (by omega)
    have h00 : (0 : Int) ≤ 2 * (l.length : Int) := by omega
    have htn : (2 * (l.length : Int)).toNat = 2 * l.length := by omega
    have n2 : ∀ j, (h.next + j = ub) = False := fun j => by simp; omega
    simp only [clsD] at hfz hD
    simp [v0, v5, w1, dcore_y, s36, hroom2, hz1, n1, hu, hfz, hD, hH2n, hfr2, h00, htn, n2, D.cells, D.one, Nat.add_assoc, ev_loop]
    have hin : ∀ c ∈ l, c.a ∈ marksF l ∧ c.b ∈ marksF l ∧ -100000 ≤ c.lo ∧ c.lo ≤ 100000 := fun c hc => ⟨(marks_mem l c.a).2 ⟨c, hc, .inl rfl⟩, (marks_mem l c.b).2 ⟨c, hc, .inr rfl⟩, (ok_years (hl2 c hc)).1, by have := ok_years (hl2 c hc); omega⟩
    have hmc : ∀ (H : Heap) (mb : Nat), frzS H 22 mb 0 (2 * l.length) 5 (some (.cells 121 ((movsF (marksF l) 0 l).flatMap moC))) = some (mosD (movsF (marksF l) 0 l), [mb]) := by
      intro H mb
      have hle : 0 + 2 * l.length * 5 ≤ ((movsF (marksF l) 0 l).flatMap moC).length ∧ 0 < 5 := by rw [length_flatMap (sz := 5) moC (fun _ => rfl), movs_len]; omega
      have htk : (((movsF (marksF l) 0 l).flatMap moC).drop 0).take (2 * l.length * 5) = (movsF (marksF l) 0 l).flatMap moC := List.take_of_length_le (by rw [List.drop_zero, length_flatMap (sz := 5) moC (fun _ => rfl), movs_len]; omega)
      rw [frzS_cells, if_pos hle, htk, each_canon H 21 _ (canonL_flatMap moC (fun c => by simp [moC]) _)]
      simp only [Option.map_some]
      rw [chunk_flatMap moC (by omega) (fun _ => rfl) (movsF (marksF l) 0 l) _ (by rw [movs_len])]
      rfl
    refine Res.endsAfter (lp_rule 80 (G1 (marksF l) l) _ (moves_round (marksF l) (marks_rise l) hl3 l hl1 hin) l.length m _ (by omega) ⟨_, _, 0, h.next + 8, h.next + 36, rb, rfl, by omega, by simp [v1, eachD], by simp [clsD], by simp, by simp, by simp, by simp [v4], by simp [intsD], by simp [movsF], ?_, by simp; omega, by simp; omega, by simp; omega, by omega, by omega, by omega, ?_⟩) ?_
    · have : H2.get rb = h.get rb := by unfold Heap.get; rw [hH2r rb (Ne.symm hne)]
      simp [show rb ≠ h.next + 8 by omega, show rb ≠ h.next + 36 by omega, this, hr]
    · repeat' first | exact hH2f | apply Heap.Fr.bump | apply Heap.Fr.set
      all_goals first | omega | (simp <;> omega)
    · rintro x s ⟨rfl, x, h', i, gb, mb, rb, rfl, hi, v1, v38, v39, v40, v8, v4, hg, hm, hr, gn, mn, rn, d1, d2, d3, hf'⟩
      have hil : i = l.length := by omega
      subst hil
      rw [List.take_length] at hm
      have q1 : (mb = rb) = False := by simp [d3]
      simp only [intsD] at hg
      simp only [mosD] at hmc
      have hcan := ints_canonL (marksF l)
      simp [v8, v4, hg, hr, nil2, D.cells, D.one, q1, hm, hmc, grD, intsD, mosD]
end Go.Proofs.YtppfjkebamegnaaDoor
/- A net without bounds, by the program. -/
namespace Go.Proofs.YtppfjkebamegnaaDoor
open Go Go.Em Go.Em.Net
set_option maxRecDepth 100000
def rowS (n k : Nat) : D := .slr k 0 n 1 (some n)
/-- A square of numbers in the heap. -/
structure Mat (n : Nat) (A : Nat → Nat → Int) (mb : Nat) (ks : List Nat) (h : Heap) : Prop where
  len : ks.length = n
  top : h.get mb = some (.cells 31 (ks.map (rowS n)))
  nd : ks.Nodup
  lt : ∀ q ∈ ks, q < h.next ∧ q ≠ mb
  row : ∀ j, ∀ hj : j < ks.length, h.get ks[j] = some (.cells 3 (yCs n (A j)))
  mlt : mb < h.next
end Go.Proofs.YtppfjkebamegnaaDoor
/- A number of a net is lowered, by the program. -/
namespace Go.Proofs.YtppfjkebamegnaaDoor
open Go Go.Em Go.Em.Net
set_option maxRecDepth 100000
def updA (A : Nat → Nat → Int) (i j : Nat) (v : Int) : Nat → Nat → Int := fun a b => if a = i ∧ b = j then v else A a b
/-- Nothing but these blocks is changed. -/
def Only (ks : List Nat) (h h' : Heap) : Prop := h.next ≤ h'.next ∧ ∀ q, q < h.next → q ∉ ks → h'.raw q = h.raw q
theorem Only.get {ks : List Nat} {h h' : Heap} (o : Only ks h h') {q : Nat} (h1 : q < h.next) (h2 : q ∉ ks) : h'.get q = h.get q := by unfold Heap.get; rw [o.2 q h1 h2]
theorem Only.trans {ks : List Nat} {a b c : Heap} (o : Only ks a b) (p : Only ks b c) : Only ks a c := ⟨Nat.le_trans o.1 p.1, fun q h1 h2 => by rw [p.2 q (Nat.lt_of_lt_of_le h1 o.1) h2, o.2 q h1 h2]⟩
/-- The rows as the program finds them. -/
theorem Mat.at {n : Nat} {A : Nat → Nat → Int} {mb : Nat} {ks : List Nat} {h : Heap} (m : Mat n A mb ks h) {i : Nat} (hi : i < n) : ∃ k, (∀ h', (ks.map (rowS n))[i]'h' = rowS n k) ∧ k ∈ ks ∧ (∀ hj : i < ks.length, ks[i] = k) ∧ h.get k = some (.cells 3 (yCs n (A i))) := by
  have hl := m.len
  exact ⟨ks[i], fun h' => by simp, List.getElem_mem _, fun _ => rfl, m.row i (by omega)⟩
/-- A row is changed. -/
theorem Mat.put {n : Nat} {A B : Nat → Nat → Int} {mb : Nat} {ks : List Nat} {h h' : Heap} (m : Mat n A mb ks h) {i : Nat} (hi : i < n) {k : Nat} (hk : ∀ hj : i < ks.length, ks[i] = k) (hg : h'.get k = some (.cells 3 (yCs n (B i)))) (ho : ∀ q, q < h.next → q ≠ k → h'.get q = h.get q) (hn : h.next ≤ h'.next) (hB : ∀ a, a ≠ i → B a = A a) : Mat n B mb ks h' := by
  have hl := m.len
  have hkk := hk (by omega)
  have hkm : k ∈ ks := by rw [← hkk]; exact List.getElem_mem _
  refine ⟨hl, ?_, m.nd, fun q hq => ⟨Nat.lt_of_lt_of_le (m.lt q hq).1 hn, (m.lt q hq).2⟩, fun j hj => ?_, Nat.lt_of_lt_of_le m.mlt hn⟩
  · rw [ho mb m.mlt (Ne.symm (m.lt k hkm).2)]; exact m.top
  · by_cases hji : j = i
    · subst hji; rw [hkk]; exact hg
    · have hne : ks[j] ≠ k := fun e => by
        rw [← hkk] at e
        have hp := List.pairwise_iff_getElem.1 m.nd
        rcases Nat.lt_or_gt_of_ne hji with h1 | h1
        · exact hp j i hj (by omega) h1 e
        · exact hp i j (by omega) hj h1 e.symm
      rw [ho _ (m.lt _ (List.getElem_mem hj)).1 hne, hB j hji]
      exact m.row j hj
end Go.Proofs.YtppfjkebamegnaaDoor
/- The numbers of a net are lowered over one mark, by the program. -/
namespace Go.Proofs.YtppfjkebamegnaaDoor
open Go Go.Em Go.Em.Net
set_option maxRecDepth 100000
def stI (k i : Nat) (A : Nat → Nat → Int) (j : Nat) : Nat → Nat → Int := if A k j = 1000000000 then A else updA A i j (min (A i j) (A i k + A k j))
def rowI (k i : Nat) (A : Nat → Nat → Int) : Nat → Nat → Nat → Int
  | 0 => A
  | J + 1 => stI k i (rowI k i A J) J
def stageI (n k : Nat) (A : Nat → Nat → Int) : Nat → Nat → Nat → Int
  | 0 => A
  | I + 1 => if stageI n k A I I k = 1000000000 then stageI n k A I else rowI k I (stageI n k A I) n
structure ThrK (M : List Int) (n k mb bx : Nat) (rk : Nat) (x : Env 58) (i : Nat) : Prop where
  v1 : x.v 1 = D.int k
  v2 : x.v 2 = .ptr bx 0
  v4 : x.v 4 = rowS n rk
  v16 : x.v 16 = rowS n mb
  v17 : x.v 17 = D.int n
  v18 : x.v 18 = D.int i
structure ThrH (M : List Int) (n : Nat) (B : Nat → Nat → Int) (mb bx : Nat) (ks : List Nat) (h0 h : Heap) : Prop where
  mat : Mat n B mb ks h
  only : Only ks h0 h
  box : h.get bx = some (.cells 74 [intsD M, rowS n mb])
  bn : bx < h.next
  bm : bx ≠ mb
  bk : bx ∉ ks
  fr : h.Fr
theorem Mat.bump {n : Nat} {A : Nat → Nat → Int} {mb : Nat} {ks : List Nat} {h : Heap} (m : Mat n A mb ks h) (z : Nat) : Mat n A mb ks (h.bump z) :=
  ⟨m.len, by simp [m.top], m.nd, fun q hq => by have := m.lt q hq; simp; omega, fun j hj => by simp [m.row j hj], by have := m.mlt; simp; omega⟩
theorem Only.bump {ks : List Nat} {h h' : Heap} (o : Only ks h h') (z : Nat) : Only ks h (h'.bump z) := ⟨by have := o.1; simp; omega, fun q h1 h2 => by simp [o.2 q h1 h2]⟩
theorem ThrH.bump {M : List Int} {n : Nat} {B : Nat → Nat → Int} {mb bx : Nat} {ks : List Nat} {h0 h : Heap} (t : ThrH M n B mb bx ks h0 h) (z : Nat) : ThrH M n B mb bx ks h0 (h.bump z) :=
  ⟨t.mat.bump z, t.only.bump z, by simp [t.box], by have := t.bn; simp; omega, t.bm, t.bk, t.fr.bump z⟩
theorem ThrH.put {M : List Int} {n : Nat} {A B : Nat → Nat → Int} {mb bx : Nat} {ks : List Nat} {h0 h : Heap} (t : ThrH M n A mb bx ks h0 h) {i k : Nat} (hi : i < n) (hk : ∀ hj : i < ks.length, ks[i] = k) (hB : ∀ a, a ≠ i → B a = A a) : ThrH M n B mb bx ks h0 (h.set k (some (.cells 3 (yCs n (B i))))) := by
  have hl := t.mat.len
  have hkm : k ∈ ks := by rw [← hk (by omega)]; exact List.getElem_mem _
  have hkn := t.mat.lt k hkm
  refine ⟨t.mat.put (B := B) hi hk (by simp) (fun q hq hk => by simp [hk]) (by simp) hB, ⟨by have := t.only.1; simp; omega, fun q h1 h2 => ?_⟩, ?_, by have := t.bn; simp; omega, t.bm, t.bk, t.fr.set _ hkn.1⟩
  · have : q ≠ k := fun e => h2 (by rw [e]; exact hkm)
    simp [this, t.only.2 q h1 h2]
  · have : bx ≠ k := fun e => t.bk (by rw [e]; exact hkm)
    simp [this, t.box]
end Go.Proofs.YtppfjkebamegnaaDoor
/- The numbers of a net are lowered over one mark, by the program: all rows. -/
namespace Go.Proofs.YtppfjkebamegnaaDoor
open Go Go.Em Go.Em.Net
set_option maxRecDepth 100000
theorem Res.fin {o : Option (Ex × St)} {id : Nat} {R : Rc} {rs : List (ResultVar × Bool × Nat)} {P : Ex → St → Prop} {r : Out} {C : Heap → Prop} (h : Res o P)
    (hk : ∀ x s, P x s → ∃ h', endH R rs (blockK id (some (x, s))) = some (r, h') ∧ C h') : ∃ h', endH R rs (blockK id o) = some (r, h') ∧ C h' := by
  obtain ⟨x, s, rfl, p⟩ := h; exact hk x s p
end Go.Proofs.YtppfjkebamegnaaDoor
/- The closure of a graph, by the program. -/
namespace Go.Proofs.YtppfjkebamegnaaDoor
open Go Go.Em Go.Em.Net
set_option maxRecDepth 100000
def lowI (A : Nat → Nat → Int) (m : Mo) : Nat → Nat → Int := updA A m.fr m.to_ (min (A m.fr m.to_) m.mo)
def farN (n : Nat) : Nat → Nat → Int := fun i j => if j = i ∧ i < n then 0 else 1000000000
def initI (n : Nat) (l : List Mo) : Nat → Nat → Int := l.foldl lowI (farN n)
def closI (n : Nat) (A : Nat → Nat → Int) : Nat → Nat → Nat → Int
  | 0 => A
  | k + 1 => stageI n k (closI n A k) n
structure CloH (M : List Int) (B : Nat → Nat → Int) (mb gb rb : Nat) (ks : List Nat) (l : List Mo) (h : Heap) : Prop where
  mat : Mat M.length B mb ks h
  g : h.get gb = some (.cells 83 [intsD M, mosD l])
  r : h.get rb = some (.cells 74 [intsD M, rowS M.length mb])
  gn : gb < h.next
  rn : rb < h.next
  d1 : gb ≠ mb
  d2 : rb ≠ mb
  d3 : gb ∉ ks
  d4 : rb ∉ ks
  fr : h.Fr
theorem CloH.bump {M : List Int} {B : Nat → Nat → Int} {mb gb rb : Nat} {ks : List Nat} {l : List Mo} {h : Heap} (t : CloH M B mb gb rb ks l h) (z : Nat) : CloH M B mb gb rb ks l (h.bump z) :=
  ⟨t.mat.bump z, by simp [t.g], by simp [t.r], by have := t.gn; simp; omega, by have := t.rn; simp; omega, t.d1, t.d2, t.d3, t.d4, t.fr.bump z⟩
/-- A new block stands in no one's way. -/
theorem CloH.new {M : List Int} {B : Nat → Nat → Int} {mb gb rb : Nat} {ks : List Nat} {l : List Mo} {h : Heap} (t : CloH M B mb gb rb ks l h) {q : Nat} (b : Option Blk) (h1 : ∀ p, p = mb ∨ p = gb ∨ p = rb ∨ p ∈ ks → p ≠ q) (h2 : q < h.next) : CloH M B mb gb rb ks l (h.set q b) := by
  have hm := h1 mb (.inl rfl)
  have hg := h1 gb (.inr (.inl rfl))
  have hr := h1 rb (.inr (.inr (.inl rfl)))
  exact ⟨⟨t.mat.len, by simp [hm, t.mat.top], t.mat.nd, fun q hq => by simpa using t.mat.lt q hq, fun j hj => by simp [h1 _ (.inr (.inr (.inr (List.getElem_mem hj)))), t.mat.row j hj], by simpa using t.mat.mlt⟩, by simp [hg, t.g], by simp [hr, t.r], by simpa using t.gn, by simpa using t.rn, t.d1, t.d2, t.d3, t.d4, t.fr.set _ h2⟩
def C1 (M : List Int) (l : List Mo) (mb gb rb : Nat) (ks : List Nat) (c : Nat) (s : St) : Prop := ∃ (x : Env 41) (h : Heap) (i : Nat), s = ⟨x.l, h, []⟩ ∧ i + c = M.length ∧ x.v 2 = .ptr rb 0 ∧ x.v 32 = D.int M.length ∧ x.v 33 = D.int i ∧ CloH M (closI M.length (initI M.length l) i) mb gb rb ks l h
end Go.Proofs.YtppfjkebamegnaaDoor
/- The closure of a graph, by the program: the answer. -/
namespace Go.Proofs.YtppfjkebamegnaaDoor
open Go Go.Em Go.Em.Net
set_option maxRecDepth 100000
def rowsD (n : Nat) (A : Nat → Nat → Int) : D := .sl false ((List.range n).map fun i => .sl false (yCs n (A i)))
end Go.Proofs.YtppfjkebamegnaaDoor
/- The program's numbers of a net are those of the mathematical one, no bound being 1000000000. -/
namespace Go.Proofs.YtppfjkebamegnaaDoor
open Go Go.Em Go.Em.Net
def enc (o : Option Int) : Int := o.getD 1000000000
def encM (N : Mx) : Nat → Nat → Int := fun a b => enc (N a b)
end Go.Proofs.YtppfjkebamegnaaDoor
/- The net of the moves along claims; when claims contradict. -/
namespace Go.Proofs.YtppfjkebamegnaaDoor
open Go Go.Em Go.Em.Net
/-- Moves that come in both directions. -/
structure Good (n : Nat) (l : List Mo) : Prop where
  hin : ∀ m ∈ l, m.fr < n ∧ m.to_ < n ∧ m.fr ≠ m.to_
  bd : ∀ m ∈ l, -100000 ≤ m.mo ∧ m.mo ≤ 100000
  sym : ∀ m ∈ l, ∃ m' ∈ l, m'.fr = m.to_ ∧ m'.to_ = m.fr
end Go.Proofs.YtppfjkebamegnaaDoor
/- The closure of claims, by the program. -/
namespace Go.Proofs.YtppfjkebamegnaaDoor
open Go Go.Em Go.Em.Net
set_option maxRecDepth 100000
theorem movs_mem {M : List Int} : ∀ {l : List Clm} {i : Nat} {m : Mo}, m ∈ movsF M i l → ∃ c ∈ l, ∃ j, m ∈ movF M j c ∧ ∀ m' ∈ movF M j c, m' ∈ movsF M i l
  | [], _, _, h => absurd h List.not_mem_nil
  | a :: l, i, m, h => by
    rcases List.mem_append.1 h with h | h
    · exact ⟨a, List.mem_cons_self, i, h, fun m' hm => List.mem_append_left _ hm⟩
    · obtain ⟨c, hc, j, h1, h2⟩ := movs_mem h
      exact ⟨c, List.mem_cons_of_mem _ hc, j, h1, fun m' hm => List.mem_append_right _ (h2 m' hm)⟩
theorem ok_differ {c : Clm} (h : okF c = true) : c.a ≠ c.b := by
  unfold okF at h
  simp only [Bool.and_eq_true, bne_iff_ne] at h
  exact h.1.1.1.2
theorem good_movs {l : List Clm} (h0 : chkF l = 0) : Good (marksF l).length (movsF (marksF l) 0 l) := by
  obtain ⟨hl1, hl2, hl3⟩ := chk_ok h0
  have pl : ∀ c ∈ l, placeF (marksF l) c.a < (marksF l).length ∧ placeF (marksF l) c.b < (marksF l).length ∧ placeF (marksF l) c.a ≠ placeF (marksF l) c.b := by
    intro c hc
    obtain ⟨a1, a2⟩ := place_at ((marks_mem l c.a).2 ⟨c, hc, .inl rfl⟩)
    obtain ⟨b1, b2⟩ := place_at ((marks_mem l c.b).2 ⟨c, hc, .inr rfl⟩)
    refine ⟨a1, b1, fun e => ok_differ (hl2 c hc) ?_⟩
    rw [← a2, ← b2]
    simp only [e]
  refine ⟨fun m hm => ?_, fun m hm => ?_, fun m hm => ?_⟩
  · obtain ⟨c, hc, j, h1, _⟩ := movs_mem hm
    obtain ⟨p1, p2, p3⟩ := pl c hc
    rcases (by simpa [movF] using h1 : m = _ ∨ m = _) with rfl | rfl
    · exact ⟨p1, p2, p3⟩
    · exact ⟨p2, p1, Ne.symm p3⟩
  · obtain ⟨c, hc, j, h1, _⟩ := movs_mem hm
    have := ok_years (hl2 c hc)
    rcases (by simpa [movF] using h1 : m = _ ∨ m = _) with rfl | rfl
    · simp only; omega
    · simp only; omega
  · obtain ⟨c, hc, j, h1, h2⟩ := movs_mem hm
    rcases (by simpa [movF] using h1 : m = _ ∨ m = _) with rfl | rfl
    · exact ⟨_, h2 ⟨j, true, placeF (marksF l) c.b, placeF (marksF l) c.a, -c.lo⟩ (by simp [movF]), rfl, rfl⟩
    · exact ⟨_, h2 ⟨j, false, placeF (marksF l) c.a, placeF (marksF l) c.b, c.hi⟩ (by simp [movF]), rfl, rfl⟩
end Go.Proofs.YtppfjkebamegnaaDoor
