/- The years that dated marks leave to a mark, by the program; the number that is picked. -/
import Derived.Test.YtfemldhlanoakaaGreatDoorPl
import Derived.Test.YtfemldhlanoakaaGreatDoorPl
import Derived.Test.YtfemldhlanoakaaGreatDoorPl
import Derived.Test.YtfemldhlanoakaaGreatDoorPl
namespace Go.Proofs.YtfemldhlanoakaaGreatDoor
open Go Go.Em Go.Em.Net
set_option maxRecDepth 100000
def bCs (n : Nat) (dt : Nat → Bool) : List D := (List.range n).map fun i => D.bool (dt i)
theorem bCs_len (n : Nat) (dt : Nat → Bool) : (bCs n dt).length = n := by simp [bCs]
theorem bCs_at {n : Nat} {dt : Nat → Bool} {j : Nat} (hj : j < n) (h : j < (bCs n dt).length) : (bCs n dt)[j]'h = D.bool (dt j) := by simp [bCs]
theorem bCs_canon (n : Nat) (dt : Nat → Bool) : D.canonL (bCs n dt) = true := canonL_map _ (fun _ => rfl) _
theorem bCs_set {n : Nat} {dt : Nat → Bool} {j : Nat} (b : Bool) : (bCs n dt).set j (D.bool b) = bCs n (fun v => if v = j then b else dt v) := by
  apply List.ext_getElem?
  intro i
  unfold bCs
  rw [List.getElem?_set]
  by_cases hi : i < n
  · by_cases hij : j = i
    · subst hij; simp [hi]
    · have : ¬ i = j := fun e => hij e.symm
      simp [hij, hi, this]
  · by_cases hij : j = i
    · subst hij; simp [hi]
    · simp [hij, hi]
/-- Years under way, as a function that reads them sees them. -/
def dtT (M : List Int) (A : Nat → Nat → Int) (y : Nat → Int) (dt : Nat → Bool) : D := .agg [intsD M, rowsD M.length A, .sl false (yCs M.length y), .sl false (bCs M.length dt)]
def RmI (M : List Int) (A : Nat → Nat → Int) (y : Nat → Int) (dt : Nat → Bool) (i : Nat) (k : Nat) (s : St) : Prop := ∃ (x : Env 69) (h : Heap) (j : Nat), s = ⟨x.l, h, []⟩ ∧ j + k = M.length ∧ x.v 1 = D.int i ∧ x.v 2 = .ptr 2 0 ∧ x.v 4 = D.int (roomI A dt y i j).1 ∧ x.v 5 = D.int (roomI A dt y i j).2.1 ∧ x.v 6 = D.bool (roomI A dt y i j).2.2 ∧ x.v 12 = D.int M.length ∧ x.v 13 = D.int j ∧ h.get 2 = some (.cells 60 [intsD M, rowsD M.length A, .sl false (yCs M.length y), .sl false (bCs M.length dt)])
set_option maxHeartbeats 8000000 in
theorem room_round (M : List Int) (hl : M.length ≤ 64) (A : Nat → Nat → Int) (hA : ∀ a b, -1000000000000 ≤ A a b ∧ A a b ≤ 1000000000000) (y : Nat → Int) (hy : ∀ j, j < M.length → -1000000000000 ≤ y j ∧ y j ≤ 1000000000000) (dt : Nat → Bool) (i : Nat) (hi : i < M.length) : ∀ n, 1 ≤ n → ∀ k s, RmI M A y dt i k s → Res (k66l0.ev ⟨pg, 69, none⟩ (rc pg n) s) (Rnd (RmI M A y dt i) (fun x s => x = .exit 0 ∧ RmI M A y dt i 0 s) k) := by
  rintro n hn k s ⟨x, h, j, rfl, hjk, v1, v2, v4, v5, v6, v12, v13, hg⟩
  by_cases hj : j < M.length
  · have w1 : IntKind.i64.wrap ((j : Int) + 1) = (j : Int) + 1 := wrap_i64 (by omega) (by omega)
    have hc1 := ints_canonL M
    have hc2 := rows_canonL M.length A
    have f1 := fun h => call_of (h := h) (pg := pg) (f := 23) rfl (by simp [nD, intsD, rowsD, hc1, hc2]) (far_run M A hi hj hn)
    have y1 := fun a => yCs_len M.length a
    have b1 := bCs_len M.length dt
    have g0 := fun h' => yCs_at (y := y) hj h'
    have g1 := fun h' => yCs_at (y := A i) hj h'
    have g2 := fun h' => yCs_at (y := A j) hi h'
    have g3 := fun h' => bCs_at (dt := dt) hj h'
    have i1 : i + 1 ≤ M.length := hi
    have i2 : j + 1 ≤ M.length := hj
    have q1 := hA i j
    have q2 := hA j i
    have q3 := hy j hj
    have w2 : IntKind.i64.wrap (y j - A i j) = y j - A i j := wrap_i64 (by omega) (by omega)
    have w3 : IntKind.i64.wrap (y j + A j i) = y j + A j i := wrap_i64 (by omega) (by omega)
    simp only [nD, intsD, rowsD] at f1 hg
    cases hd : dt j with
    | false =>
      have e0 : roomI A dt y i (j + 1) = roomI A dt y i j := by rw [roomI, if_neg (by simp [hd])]
      simp [-beq_iff_eq, k66l0, v1, v2, v4, v5, v6, v12, v13, hi, hj, D.cells, D.one, hg, y1, b1, g3, i2, hd, w1]
      exact ⟨k - 1, by omega, _, _, j + 1, rfl, by omega, by simp [v1], by simp [v2], by simp [v4, e0], by simp [v5, e0], by simp [v6, e0], by simp [v12], by simp, by simp [hg, intsD, rowsD]⟩
    | true =>
      rw [hd] at g3
      by_cases hf : A i j = 1000000000
      · have hf' : (A i j == 1000000000) = true := by simp [hf]
        have e0 : roomI A dt y i (j + 1) = roomI A dt y i j := by rw [roomI, if_neg (by simp [hf])]
        simp [-beq_iff_eq, k66l0, v1, v2, v4, v5, v6, v12, v13, hi, hj, D.cells, D.one, hg, y1, b1, g3, i2, f1, hf', w1]
        exact ⟨k - 1, by omega, _, _, j + 1, rfl, by omega, by simp [v1], by simp [v2], by simp [v4, e0], by simp [v5, e0], by simp [v6, e0], by simp [v12], by simp, by simp [hg, intsD, rowsD]⟩
      · have hf' : (A i j == 1000000000) = false := by simp [hf]
        have e0 : roomI A dt y i (j + 1) = (max (roomI A dt y i j).1 (y j - A i j), min (roomI A dt y i j).2.1 (y j + A j i), false) := by rw [roomI, if_pos ⟨hd, hf⟩]
        simp [-beq_iff_eq, -beq_eq_false_iff_ne, k66l0, v1, v2, v4, v5, v6, v12, v13, hi, hj, D.cells, D.one, hg, y1, b1, g0, g1, g2, g3, i1, i2, f1, hf', w1, w2, w3]
        exact ⟨k - 1, by omega, _, _, j + 1, rfl, by omega, by simp [v1], by simp [v2], by simp [e0], by simp [e0], by simp [e0], by simp [v12], by simp, by simp [hg, intsD, rowsD]⟩
  · simp [k66l0, v12, v13, hj]
    exact ⟨_, _, j, rfl, by omega, by simp [v1], by simp [v2], by simp [v4], by simp [v5], by simp [v6], by simp [v12], by simp [v13], by simp [hg]⟩
theorem room_run (M : List Int) (hl : M.length ≤ 64) (A : Nat → Nat → Int) (hA : ∀ a b, -1000000000000 ≤ A a b ∧ A a b ≤ 1000000000000) (y : Nat → Int) (hy : ∀ j, j < M.length → -1000000000000 ≤ y j ∧ y j ≤ 1000000000000) (dt : Nat → Bool) (i : Nat) (hi : i < M.length) {n : Nat} (hn : 100 ≤ n) :
    pureCall (rc pg n) 66 [dtT M A y dt, D.int i] = some (.ret (.tup [D.int (roomI A dt y i M.length).1, D.int (roomI A dt y i M.length).2.1, D.bool (roomI A dt y i M.length).2.2])) := by
  obtain ⟨m, rfl, e⟩ := body (pg := pg) (f := 66) (args := [dtT M A y dt, D.int i]) (show 0 < n by omega) rfl rfl
  rw [e]
  simp [k66, Env.v_ini, dtT, intsD, rowsD, D.cells, D.one, ev_loop]
  refine Res.endsAfter (lp_rule 1 (RmI M A y dt i) _ (room_round M hl A hA y hy dt i hi) M.length m _ (by omega) ⟨_, _, 0, rfl, by omega, by simp [Env.v_ini], by simp, by simp [roomI], by simp [roomI], by simp [roomI], by simp, by simp, by simp [intsD, rowsD]⟩) ?_
  rintro x s ⟨rfl, x, h, j, rfl, hj, v1, v2, v4, v5, v6, _⟩
  have hjl : j = M.length := by omega
  subst hjl
  simp [v4, v5, v6]
/-- The number that is picked. -/
theorem pick_run (p : List Int) (hp : p.length ≤ 4611686018427387904) (t : Nat) (ht : t ≤ 4611686018427387904) (c : Int) (hc : c ≤ 4611686018427387904) (hc' : -4611686018427387904 ≤ c) {n : Nat} (hn : 1 ≤ n) : pureCall (rc pg n) 67 [intsD p, D.int t, D.int c] = some (.ret (D.int (pickI p t c))) := by
  obtain ⟨m, rfl, e⟩ := body (pg := pg) (f := 67) (args := [intsD p, D.int t, D.int c]) (show 0 < n by omega) rfl rfl
  rw [e]
  by_cases h0 : p = []
  · subst h0
    simp [k67, Env.v_ini, intsD, pickI]
  · have hpl : 0 < p.length := List.length_pos_iff.2 h0
    have hl0 : ((p.length : Int) == 0) = false := by simp; omega
    by_cases h1 : c < 1
    · have e0 : pickI p t c = 0 := by unfold pickI; rw [if_pos (.inr h1)]
      simp [-beq_eq_false_iff_ne, k67, Env.v_ini, intsD, hl0, h1, e0]
    · have hq : t % p.length < p.length := Nat.mod_lt _ hpl
      obtain ⟨q, hqd⟩ : ∃ q, q = t % p.length := ⟨_, rfl⟩
      rw [← hqd] at hq
      obtain ⟨v, hv⟩ : ∃ v, p[q] = v := ⟨_, rfl⟩
      have e0 : pickI p t c = v % c := by
        unfold pickI
        rw [if_neg (by simp [h0, h1]), ← hqd, List.getD_eq_getElem?_getD, List.getElem?_eq_getElem hq, hv]; rfl
      have b1 := bin_rem (k := .i64) (a := (t : Int)) (b := (p.length : Int)) (by omega)
      have e1 : (t : Int).tmod (p.length : Int) = (q : Int) := by rw [Int.tmod_eq_emod_of_nonneg (by omega), hqd]; omega
      rw [e1] at b1
      have b2 := bin_rem (k := .i64) (a := v) (b := c) (by omega)
      have h2 := Int.tmod_lt_of_pos v (show 0 < c by omega)
      have h3 : -c < v.tmod c := by have := Int.lt_tmod_of_pos v (show 0 < c by omega); omega
      have h4 : v.tmod c = v - c * v.tdiv c := by have := Int.tmod_add_mul_tdiv v c; omega
      have h5 : v % c = v.tmod c % c := by
        rw [h4, Int.sub_emod, Int.mul_emod_right, Int.sub_zero, Int.emod_emod_of_dvd _ (Int.dvd_refl c)]
      obtain ⟨r, hr⟩ : ∃ r, r = v.tmod c := ⟨_, rfl⟩
      rw [← hr] at b2 h2 h3 h5
      by_cases h6 : r < 0
      · have w1 : IntKind.i64.wrap (r + c) = r + c := wrap_i64 (by omega) (by omega)
        have e2 : v % c = r + c := by
          rw [h5, ← Int.add_emod_right, Int.emod_eq_of_lt (by omega) (by omega)]
        simp [-beq_eq_false_iff_ne, k67, Env.v_ini, intsD, hl0, h1, e0, b1, hq, hv, b2, h6, w1, e2, D.cells]
      · have e2 : v % c = r := by rw [h5, Int.emod_eq_of_lt (by omega) (by omega)]
        simp [-beq_eq_false_iff_ne, k67, Env.v_ini, intsD, hl0, h1, e0, b1, hq, hv, b2, h6, e2, D.cells]
end Go.Proofs.YtfemldhlanoakaaGreatDoor
/- A mark is dated, by the program; years under way in the heap. -/
namespace Go.Proofs.YtfemldhlanoakaaGreatDoor
open Go Go.Em Go.Em.Net
set_option maxRecDepth 100000
/-- Years under way, in the heap. -/
structure Dh (n : Nat) (y : Nat → Int) (dt : Nat → Bool) (yb db : Nat) (h : Heap) : Prop where
  hy : h.get yb = some (.cells 3 (yCs n y))
  hd : h.get db = some (.cells 4 (bCs n dt))
  yl : yb < h.next
  dl : db < h.next
  ne : yb ≠ db
def dtS (M : List Int) (A : Nat → Nat → Int) (yb db : Nat) : D := .agg [intsD M, rowsD M.length A, .slr yb 0 M.length 1 (some M.length), .slr db 0 M.length 1 (some M.length)]
theorem Dh.keep {n : Nat} {y : Nat → Int} {dt : Nat → Bool} {yb db : Nat} {h h' : Heap} (d : Dh n y dt yb db h) (hn : h.next ≤ h'.next) (hk : ∀ q, q < h.next → h'.get q = h.get q) : Dh n y dt yb db h' :=
  ⟨by rw [hk _ d.yl]; exact d.hy, by rw [hk _ d.dl]; exact d.hd, Nat.lt_of_lt_of_le d.yl hn, Nat.lt_of_lt_of_le d.dl hn, d.ne⟩
theorem keepB_k {gl : Nat → Option (List D)} {base : Nat} {e : List D} {s k o n : Nat} {ag : Bool} {x : X} (h1 : rd gl e x = .ptr k o) (h2 : atId (e.getD s .junk) = some k) : keepB gl base e [.keep s] (.ld ag n x) = true := by
  have := kids_some (base := base) e s k [] h2
  simp [keepB, h1, this]
set_option maxHeartbeats 8000000 in
theorem set_sh' (M : List Int) (A : Nat → Nat → Int) {y : Nat → Int} {dt : Nat → Bool} {yb db : Nat} {h : Heap} (d : Dh M.length y dt yb db h) (hf : h.Fr) {i : Nat} (hi : i < M.length) (v : Int) {f : Nat} (hfl : 1 ≤ f) :
    ∃ h', (rc pg f).fn 26 [dtS M A yb db, D.int i, D.int v] h = some (.ret (.tup []), h') ∧ Dh M.length (fun q => if q = i then v else y q) (fun q => if q = i then true else dt q) yb db h' ∧ h'.Fr ∧ h.next ≤ h'.next ∧ ∀ q, q < h.next → q ≠ yb → q ≠ db → h'.raw q = h.raw q := by
  obtain ⟨m, rfl, e⟩ := fn_body (pg := pg) (f := 26) (args := [dtS M A yb db, D.int i, D.int v]) (h := h) (show 0 < f by omega) rfl rfl
  rw [e]
  have hfr : ∀ j, h.raw (h.next + j) = none := fun j => hf _ (by omega)
  have hyl := d.yl
  have hdl := d.dl
  have hy := d.hy
  have hd := d.hd
  have hne := d.ne
  have n1 : ∀ j, (yb = h.next + j) = False := fun j => by simp; omega
  have n2 : ∀ j, (db = h.next + j) = False := fun j => by simp; omega
  have m1 : ∀ j, (h.next + j = yb) = False := fun j => by simp; omega
  have m2 : ∀ j, (h.next + j = db) = False := fun j => by simp; omega
  have n3 : (yb = db) = False := by simp [hne]
  have n4 : (db = yb) = False := by simp; omega
  have y1 := yCs_len M.length y
  have b1 := bCs_len M.length dt
  have i1 : i + 1 ≤ M.length := hi
  have st1 : (yCs M.length y).take i ++ D.int v :: (yCs M.length y).drop (i + 1) = yCs M.length (fun q => if q = i then v else y q) := by
    rw [← yCs_set, List.set_eq_take_append_cons_drop, if_pos (by rw [y1]; exact hi)]
  have st2 : (bCs M.length dt).take i ++ D.val (.bool true) :: (bCs M.length dt).drop (i + 1) = bCs M.length (fun q => if q = i then true else dt q) := by
    rw [← bCs_set, List.set_eq_take_append_cons_drop, if_pos (by rw [b1]; exact hi)]
  simp [k26, Env.v_ini, dtS, intsD, rowsD, hfr, D.cells, D.one, Nat.add_assoc, hy, hd, hi, i1, y1, b1, st1, st2, n1, n2, m1, m2, n3, n4, keepB_k (k := h.next + 3) (o := 3), avids_some (k := h.next + 3)]
  refine ⟨⟨by simp [n3], by simp, by simp; omega, by simp; omega, hne⟩, ?_, fun q hq q1 q2 => ?_⟩
  · repeat' first | exact hf | apply Heap.Fr.bump | apply Heap.Fr.set
    all_goals first | omega | (simp <;> omega)
  · rw [if_neg q2, if_neg q1, if_neg (by omega)]
end Go.Proofs.YtfemldhlanoakaaGreatDoor
/- Years of no mark yet, by the program; all marks are dated in turn. -/
namespace Go.Proofs.YtfemldhlanoakaaGreatDoor
open Go Go.Em Go.Em.Net
set_option maxRecDepth 100000
set_option maxHeartbeats 8000000 in
theorem nwd_sh (M : List Int) (A : Nat → Nat → Int) (hl : M.length ≤ 64) {h : Heap} (hf : h.Fr) {f : Nat} (hfl : 1 ≤ f) :
    ∃ yb db h', (rc pg f).fn 25 [nD M A] h = some (.ret (dtS M A yb db), h') ∧ Dh M.length (fun _ => 0) (fun _ => false) yb db h' ∧ h'.Fr ∧ h.next ≤ yb ∧ h.next ≤ db ∧ Un h h' := by
  obtain ⟨m, rfl, e⟩ := fn_body (pg := pg) (f := 25) (args := [nD M A]) (h := h) (show 0 < f by omega) rfl rfl
  rw [e]
  have hfr : ∀ j, h.raw (h.next + j) = none := fun j => hf _ (by omega)
  have hr1 : (8 : Int) * M.length ≤ (room : Int) := by unfold room; omega
  have hr2 : (M.length : Int) ≤ (room : Int) := by unfold room; omega
  have z1 : zerosD [.int .i64 0] 1 M.length = yCs M.length (fun _ => 0) := by
    unfold zerosD yCs
    rw [Nat.mul_one]
    refine List.map_congr_left fun i _ => ?_
    simp [Nat.mod_one]
  have z2 : zerosD [.bool false] 1 M.length = bCs M.length (fun _ => false) := by
    unfold zerosD bCs
    rw [Nat.mul_one]
    refine List.map_congr_left fun i _ => ?_
    simp [Nat.mod_one]
  simp [k25, Env.v_ini, nD, intsD, rowsD, hfr, hr1, hr2, z1, z2, D.cells, D.one, Nat.add_assoc]
  refine ⟨h.next + 23, h.next + 28, _, ⟨rfl, rfl⟩, ⟨by simp, by simp, by simp <;> omega, by simp <;> omega, by omega⟩, ?_, by omega, by omega, by simp <;> omega, fun q hq => ?_⟩
  · repeat' first | exact hf | apply Heap.Fr.bump | apply Heap.Fr.set
    all_goals first | omega | (simp <;> omega)
  · simp [show q ≠ h.next + 1 by omega, show q ≠ h.next + 2 by omega, show q ≠ h.next + 23 by omega, show q ≠ h.next + 28 by omega]
theorem fillS_dt {A : Nat → Nat → Int} {n : Nat} {p : List Int} {s : Fs} {i : Nat} : (fillS A n p s i).dt i = true := by
  unfold fillS
  split
  · assumption
  · split <;> simp [Fs.put]
end Go.Proofs.YtfemldhlanoakaaGreatDoor
/- All marks are dated in turn, by the program: a round. -/
namespace Go.Proofs.YtfemldhlanoakaaGreatDoor
open Go Go.Em Go.Em.Net
set_option maxRecDepth 100000
def dR (o : Option (Out × Heap)) : Option (D × Heap) := match o with
  | some (.ret d, h') => some (d, h')
  | _ => none
@[simp] theorem dR_ret (d : D) (h : Heap) : dR (some (.ret d, h)) = some (d, h) := by unfold dR; rfl
/-- A call in a drawn region that is in order with all else. -/
theorem dcore_c {c : Cfg} {R : Rc} {base : Nat} (d : Option Nat) (f : FuncId) (args : List X) (wt : Nat) (e : List D) (h : Heap) :
    dcore c R base ⟨⟨none, d, .inr (.fn f args)⟩, none, [], wt, false⟩ e h = dR (call c.pg R f (args.map (rd c.pg.gl e)) h) := by
  unfold dcore dR
  simp only [G.want, Bool.false_eq_true, if_false, List.isEmpty_nil, Bool.true_or, if_true]
  cases call c.pg R f (args.map (rd c.pg.gl e)) h with
  | none => rfl
  | some q =>
    obtain ⟨o, h'⟩ := q
    cases o <;> rfl
/-- The list of the dated marks, so far. -/
def lsF (M : List Int) (g : Nat → Int) (i : Nat) : List Dt := (List.range i).map fun q => ⟨M.getD q 0, g q⟩
theorem lsF_len (M : List Int) (g : Nat → Int) (i : Nat) : (lsF M g i).length = i := by simp [lsF]
theorem lsF_snoc (M : List Int) (g : Nat → Int) (i : Nat) : lsF M g (i + 1) = lsF M g i ++ [⟨M.getD i 0, g i⟩] := by unfold lsF; rw [List.range_succ, List.map_append]; rfl
theorem ls_cells (l : List Dt) : (l.flatMap dtC).length = l.length * 2 := length_flatMap dtC (fun _ => rfl) l
theorem fillN_t {A : Nat → Nat → Int} {n : Nat} {p : List Int} {s : Fs} : ∀ i, (fillN A n p s i).t ≤ s.t + i
  | 0 => Nat.le_refl _
  | i + 1 => by
    have ih := fillN_t (A := A) (n := n) (p := p) (s := s) i
    unfold fillN fillS
    split
    · omega
    · split
      · simp only [Fs.put]; omega
      · simp only [Fs.put]; omega
structure FillH (M : List Int) (A : Nat → Nat → Int) (p : List Int) (s0 : Fs) : Prop where
  len : M.length ≤ 64
  pl : p.length ≤ 4000000000000000000
  tl : s0.t ≤ 1000
  hA : ∀ a b, -1000000000000 ≤ A a b ∧ A a b ≤ 1000000000000
  hy : ∀ i, i ≤ M.length → ∀ j, j < M.length → -1000000000000 ≤ (fillN A M.length p s0 i).y j ∧ (fillN A M.length p s0 i).y j ≤ 1000000000000
  hr : ∀ i, i < M.length → (fillN A M.length p s0 i).dt i = false → (roomI A (fillN A M.length p s0 i).dt (fillN A M.length p s0 i).y i M.length).2.2 = false → -300000000 ≤ (roomI A (fillN A M.length p s0 i).dt (fillN A M.length p s0 i).y i M.length).1 ∧ (roomI A (fillN A M.length p s0 i).dt (fillN A M.length p s0 i).y i M.length).1 ≤ (roomI A (fillN A M.length p s0 i).dt (fillN A M.length p s0 i).y i M.length).2.1 ∧ (roomI A (fillN A M.length p s0 i).dt (fillN A M.length p s0 i).y i M.length).2.1 ≤ 300000000
structure FlH (h0 : Heap) (M : List Int) (A : Nat → Nat → Int) (L : List Dt) (s : Fs) (yb db bb lb : Nat) (h : Heap) : Prop where
  d : Dh M.length s.y s.dt yb db h
  b : h.get bb = some (.cells 60 [intsD M, rowsD M.length A, .slr yb 0 M.length 1 (some M.length), .slr db 0 M.length 1 (some M.length)])
  l : h.get lb = some (.cells 80 (L.flatMap dtC))
  bl : bb < h.next
  ll : lb < h.next
  ne : bb ≠ lb
  yq : yb < h0.next
  dq : db < h0.next
  b0 : h0.next ≤ bb
  l0 : h0.next ≤ lb
  fr : h.Fr
  nx : h0.next ≤ h.next
  un : ∀ q, q < h0.next → q ≠ yb → q ≠ db → h.raw q = h0.raw q
theorem FlH.bump {h0 : Heap} {M : List Int} {A : Nat → Nat → Int} {L : List Dt} {s : Fs} {yb db bb lb : Nat} {h : Heap} (f : FlH h0 M A L s yb db bb lb h) (z : Nat) : FlH h0 M A L s yb db bb lb (h.bump z) :=
  ⟨f.d.keep (by simp) (by simp), by simp [f.b], by simp [f.l], by have := f.bl; simp; omega, by have := f.ll; simp; omega, f.ne, f.yq, f.dq, f.b0, f.l0, f.fr.bump z, by have := f.nx; simp; omega, fun q h1 h2 h3 => by simpa using f.un q h1 h2 h3⟩
def FIL (pv : D) (h0 : Heap) (M : List Int) (A : Nat → Nat → Int) (p : List Int) (s0 : Fs) (yb db bb lb : Nat) (k : Nat) (s : St) : Prop := ∃ (x : Env 71) (h : Heap) (i : Nat), s = ⟨x.l, h, []⟩ ∧ i + k = M.length ∧ x.v 1 = pv ∧ x.v 2 = .ptr bb 0 ∧ x.v 5 = D.int (fillN A M.length p s0 i).t ∧ x.v 6 = .slr lb 0 i 2 (some M.length) ∧ x.v 21 = intsD M ∧ x.v 22 = D.int M.length ∧ x.v 23 = D.int i ∧ FlH h0 M A (lsF M (fillN A M.length p s0 i).y i) (fillN A M.length p s0 i) yb db bb lb h
theorem FlH.set {h0 : Heap} {M : List Int} {A : Nat → Nat → Int} {L : List Dt} {s s' : Fs} {yb db bb lb : Nat} {h h' : Heap} (f : FlH h0 M A L s yb db bb lb h) (d : Dh M.length s'.y s'.dt yb db h') (hf : h'.Fr) (hn : h.next ≤ h'.next) (hu : ∀ q, q < h.next → q ≠ yb → q ≠ db → h'.raw q = h.raw q) : FlH h0 M A L s' yb db bb lb h' := by
  have a1 := f.yq
  have a2 := f.dq
  have a3 := f.b0
  have a4 := f.l0
  have a5 := f.bl
  have a6 := f.ll
  have a7 := f.nx
  exact ⟨d, by unfold Heap.get; rw [hu bb a5 (by omega) (by omega)]; exact f.b, by unfold Heap.get; rw [hu lb a6 (by omega) (by omega)]; exact f.l, by omega, by omega, f.ne, a1, a2, a3, a4, hf, by omega, fun q h1 h2 h3 => by rw [hu q (by omega) h2 h3]; exact f.un q h1 h2 h3⟩
theorem lsF_congr {M : List Int} {g g' : Nat → Int} {i : Nat} (h : ∀ q, q < i → g q = g' q) : lsF M g i = lsF M g' i := by
  unfold lsF
  exact List.map_congr_left fun q hq => by rw [h q (List.mem_range.1 hq)]
theorem fillN_dts {A : Nat → Nat → Int} {n : Nat} {p : List Int} {s : Fs} : ∀ i q, q < i → (fillN A n p s i).dt q = true
  | i + 1, q, h => by
    rcases Nat.lt_or_eq_of_le (Nat.le_of_lt_succ h) with e | e
    · exact (fillS_keep (fillN_dts i q e)).1
    · subst e; exact fillS_dt
theorem fillN_y {A : Nat → Nat → Int} {n : Nat} {p : List Int} {s : Fs} {i q : Nat} (h : q < i) : (fillN A n p s (i + 1)).y q = (fillN A n p s i).y q := (fillS_keep (fillN_dts i q h)).2
theorem frz_dt' (M : List Int) (A : Nat → Nat → Int) {y : Nat → Int} {dt : Nat → Bool} {yb db : Nat} {h : Heap} (h1 : h.get yb = some (.cells 3 (yCs M.length y))) (h2 : h.get db = some (.cells 4 (bCs M.length dt))) (i : Nat) : each (frz h depth) [dtS M A yb db, D.int i] = some ([dtT M A y dt, D.int i], [yb, db]) := by
  have c1 := fun n => each_canon h n _ (ints_canonL M)
  have c2 := fun n => each_canon h n _ (rows_canonL M.length A)
  have c3 := fun n => each_canon h n _ (yCs_canon M.length y)
  have c4 := fun n => each_canon h n _ (bCs_canon M.length dt)
  have l1 := yCs_len M.length y
  have l2 := bCs_len M.length dt
  have t1 : (yCs M.length y).take M.length = yCs M.length y := List.take_of_length_le (by omega)
  have t2 : (bCs M.length dt).take M.length = bCs M.length dt := List.take_of_length_le (by omega)
  have k1 := chunk_one M.length _ l1
  have k2 := chunk_one M.length _ l2
  simp [dtS, dtT, intsD, rowsD, h1, h2, c1, c2, c3, c4, l1, l2, t1, t2, k1, k2]
def k72p : Cd :=
  .region [⟨none, (some 59), .inl (.mv (.s 6))⟩,
    ⟨none, (some 60), .inl (.mv (.s 8))⟩,
    ⟨none, (some 61), .inl (.fa (.s 2) 2)⟩,
    ⟨none, (some 62), .inl (.ld false 1 (.s 61))⟩,
    ⟨none, (some 63), .inl (.mv (.s 7))⟩,
    ⟨none, (some 64), .inl (.ias 1 (.s 62) (.s 63))⟩,
    ⟨none, (some 65), .inl (.ld false 1 (.s 64))⟩,
    ⟨none, (some 66), .inl (.bld [(.int .i64 0), (.int .i64 0)] [(0, 1, (.s 60)), (1, 1, (.s 65))])⟩,
    ⟨none, (some 67), .inl (.bs 80 2 1 [(.int .i64 0), (.int .i64 0)] [(0, (.s 66))])⟩,
    ⟨none, (some 68), .inl (.app 80 2 16 (.s 59) (.s 67))⟩,
    ⟨none, (some 6), .inl (.mv (.s 68))⟩]
def k72q : Cd :=
  .region [⟨none, (some 69), .inl (.bin .add (.s 23) (.c (.int .i64 1)))⟩,
    ⟨none, (some 23), .inl (.mv (.s 69))⟩]
theorem k72l0_eq : k27l0 = .seq (.region [⟨none, (some 24), .inl (.bin .lss (.s 23) (.s 22))⟩])
  (.seq (.cond (.s 24) (.skip)
  (.exit 0))
  (.seq (.block 1 (.seq (.region [⟨none, (some 25), .inl (.mv (.s 23))⟩,
    ⟨none, (some 26), .inl (.ias 1 (.s 21) (.s 23))⟩,
    ⟨none, (some 27), .inl (.ld false 1 (.s 26))⟩,
    ⟨none, (some 7), .inl (.mv (.s 25))⟩,
    ⟨none, (some 8), .inl (.mv (.s 27))⟩])
  (.seq (.seq (.region [⟨none, (some 28), .inl (.fa (.s 2) 3)⟩,
    ⟨none, (some 29), .inl (.ld false 1 (.s 28))⟩,
    ⟨none, (some 30), .inl (.mv (.s 7))⟩,
    ⟨none, (some 31), .inl (.ias 1 (.s 29) (.s 30))⟩,
    ⟨none, (some 32), .inl (.ld false 1 (.s 31))⟩,
    ⟨none, (some 33), .inl (.not (.s 32))⟩])
  (.cond (.s 33) (.seq (.region [⟨none, (some 35), .inl (.ld true 4 (.s 2))⟩,
     ⟨none, (some 36), .inl (.mv (.s 7))⟩,
     ⟨none, (some 37), .inr (.fn 66 [(.s 35), (.s 36)])⟩,
     ⟨none, (some 34), .inl (.mv (.s 37))⟩,
     ⟨none, (some 38), .inl (.ex (.s 34) 0)⟩,
     ⟨none, (some 39), .inl (.ex (.s 34) 1)⟩,
     ⟨none, (some 40), .inl (.ex (.s 34) 2)⟩,
     ⟨none, (some 9), .inl (.mv (.s 38))⟩,
     ⟨none, (some 10), .inl (.mv (.s 39))⟩,
     ⟨none, (some 11), .inl (.mv (.s 40))⟩])
   (.seq (.region [⟨none, (some 41), .inl (.mv (.s 11))⟩])
   (.cond (.s 41) (.region [⟨none, (some 42), .inl (.ld true 4 (.s 2))⟩,
      ⟨none, (some 43), .inl (.mv (.s 7))⟩,
      ⟨none, (some 44), .inr (.fn 26 [(.s 42), (.s 43), (.c (.int .i64 0))])⟩])
   (.seq (.draw [⟨⟨none, (some 45), .inl (.ld true 4 (.s 2))⟩, (some []), [], 0, false⟩,
      ⟨⟨none, (some 46), .inl (.mv (.s 7))⟩, (some []), [], 0, false⟩,
      ⟨⟨none, (some 47), .inl (.mv (.s 9))⟩, (some []), [], 0, false⟩,
      ⟨⟨none, (some 48), .inl (.mv (.s 1))⟩, (some []), [], 0, false⟩,
      ⟨⟨none, (some 49), .inl (.mv (.s 5))⟩, (some []), [], 0, false⟩,
      ⟨⟨none, (some 50), .inl (.mv (.s 10))⟩, (some []), [], 0, false⟩,
      ⟨⟨none, (some 51), .inl (.mv (.s 9))⟩, (some []), [], 0, false⟩,
      ⟨⟨none, (some 52), .inl (.bin .sub (.s 50) (.s 51))⟩, (some []), [], 96, false⟩,
      ⟨⟨none, (some 53), .inl (.bin .add (.s 52) (.c (.int .i64 1)))⟩, (some []), [], 224, false⟩,
      ⟨⟨none, (some 54), .inr (.fn 67 [(.s 48), (.s 49), (.s 53)])⟩, (some []), [], 504, false⟩,
      ⟨⟨none, (some 55), .inl (.bin .add (.s 47) (.s 54))⟩, (some []), [], 1020, false⟩,
      ⟨⟨none, (some 56), .inr (.fn 26 [(.s 45), (.s 46), (.s 55)])⟩, none, [], 2047, false⟩])
    (.region [⟨none, (some 57), .inl (.mv (.s 5))⟩,
      ⟨none, (some 58), .inl (.bin .add (.s 57) (.c (.int .i64 1)))⟩,
      ⟨none, (some 5), .inl (.mv (.s 58))⟩])))))
  (.skip)))
  k72p)))
  k72q)) := rfl
theorem zer2 : zerosD [.int .i64 0, .int .i64 0] 2 1 = [D.int 0, D.int 0] := rfl
set_option maxHeartbeats 8000000 in
theorem fill_tail (pv : D) (h0 : Heap) (M : List Int) (A : Nat → Nat → Int) (p : List Int) (s0 : Fs) (hl : M.length ≤ 64) (yb db bb lb : Nat) {n k i : Nat} (hi : i < M.length) (hik : i + k = M.length) (x : Env 71) (h : Heap) (v1 : x.v 1 = pv) (v2 : x.v 2 = .ptr bb 0) (v5 : x.v 5 = D.int (fillN A M.length p s0 (i + 1)).t) (v6 : x.v 6 = .slr lb 0 i 2 (some M.length)) (v7 : x.v 7 = D.int i) (v8 : x.v 8 = D.int M[i]) (v21 : x.v 21 = intsD M) (v22 : x.v 22 = D.int M.length) (v23 : x.v 23 = D.int i)
    (hF : FlH h0 M A (lsF M (fillN A M.length p s0 i).y i) (fillN A M.length p s0 (i + 1)) yb db bb lb h) : Res (andThen (blockK 1 (k72p.ev ⟨pg, 71, none⟩ (rc pg n) ⟨x.l, h, []⟩)) (k72q.ev ⟨pg, 71, none⟩ (rc pg n))) (Rnd (FIL pv h0 M A p s0 yb db bb lb) (fun x s => x = .exit 0 ∧ FIL pv h0 M A p s0 yb db bb lb 0 s) k) := by
  obtain ⟨a, ha⟩ : ∃ a, M[i] = a := ⟨_, rfl⟩
  rw [ha] at v8
  have hM : M.getD i 0 = a := by rw [List.getD_eq_getElem?_getD, List.getElem?_eq_getElem hi, ha]; rfl
  have hlc : lsF M (fillN A M.length p s0 (i + 1)).y (i + 1) = lsF M (fillN A M.length p s0 i).y i ++ [⟨a, (fillN A M.length p s0 (i + 1)).y i⟩] := by
    rw [lsF_snoc, hM]
    congr 1
    exact lsF_congr fun q hq => fillN_y hq
  obtain ⟨S, hS⟩ : ∃ S, S = fillN A M.length p s0 (i + 1) := ⟨_, rfl⟩
  obtain ⟨L, hL⟩ : ∃ L, L = lsF M (fillN A M.length p s0 i).y i := ⟨_, rfl⟩
  rw [← hS] at v5 hF hlc
  rw [← hL] at hF hlc
  have hLl : L.length = i := by rw [hL, lsF_len]
  have w1 : IntKind.i64.wrap ((i : Int) + 1) = (i : Int) + 1 := wrap_i64 (by omega) (by omega)
  have hfr : ∀ j, h.raw (h.next + j) = none := fun j => hF.fr _ (by omega)
  have hyg := hF.d.hy
  have hbg := hF.b
  have hlg := hF.l
  have y1 := yCs_len M.length S.y
  have g1 := fun h' => yCs_at (y := S.y) hi h'
  have i1 : i + 1 ≤ M.length := hi
  have nl := hF.ll
  have ne1 : ∀ j, (lb = h.next + j) = False := fun j => by simp; omega
  have ne2 : ∀ j, (h.next + j = lb) = False := fun j => by simp; omega
  have happ := fun t hh news => appS_cap (t := t) (et := 80) (sz := 2) (bytes := 16) (h := hh) (m := 1) (news := news) (k := lb) (n := i) (c := M.length) (ty := 80) (cs := L.flatMap dtC) (by rw [ls_cells, hLl]) (by omega) (by unfold room; omega) (by unfold maxLen; omega)
  have hcat : L.flatMap dtC ++ [D.int a, D.int (S.y i)] = (L ++ [(⟨a, S.y i⟩ : Dt)]).flatMap dtC := by simp [dtC]
  simp only [intsD, rowsD] at hbg
  simp [k72p, k72q, v1, v2, v5, v6, v7, v8, v21, v22, v23, hi, hbg, hyg, hlg, y1, g1, i1, D.cells, D.one, w1, hfr, zer2, apK_some, happ, hcat, Nat.add_assoc, List.range_succ, ne1, ne2]
  refine ⟨k - 1, by omega, _, _, i + 1, rfl, by omega, by simp [v1], by simp [v2], by simp [v5, ← hS], by simp, by simp [v21], by simp [v22], by simp, ?_⟩
  rw [← hS, hlc]
  have bl := hF.bl
  have nb := hF.ne
  have q1 := hF.yq
  have q2 := hF.dq
  have q3 := hF.l0
  have q4 := hF.nx
  have hd := hF.d
  refine ⟨⟨by simp [show yb ≠ lb by omega, show yb ≠ h.next + 67 by omega, hd.hy], by simp [show db ≠ lb by omega, show db ≠ h.next + 67 by omega, hd.hd], by have := hd.yl; simp; omega, by have := hd.dl; simp; omega, hd.ne⟩, ?_, by simp, by simp; omega, by simp; omega, nb, q1, q2, hF.b0, q3, ?_, by simp; omega, fun q h1 h2 h3 => ?_⟩
  · simp [nb, show bb ≠ h.next + 67 by omega, hF.b]
  · repeat' first | exact hF.fr | apply Heap.Fr.bump | apply Heap.Fr.set
    all_goals first | omega | (simp <;> omega)
  · have := hF.un q h1 h2 h3
    simp [show q ≠ lb by omega, show q ≠ h.next + 67 by omega, this]
/-- A call in a drawn region, its arguments frozen without a trace. -/
theorem dcore_fz {c : Cfg} {R : Rc} {base : Nat} (d : Option Nat) (f : FuncId) (args : List X) (wt : Nat) (e : List D) (h : Heap) (a : D) (l : List D) (bs : List D) (o : D) (hs' : c.pg.sh f = false) (hl : args.map (rd c.pg.gl e) = a :: l) (ha : each (frz h depth) (a :: l) = some (bs, [])) (x : pureCall R f bs = some (.ret o)) :
    dcore c R base ⟨⟨none, d, .inr (.fn f args)⟩, some [], [], wt, false⟩ e h = some (o, h) := by
  have hk : h.kill (hids base e []) = h := by rw [hids_nil, kill_nil]
  unfold dcore
  simp only [G.want, hs', Bool.false_eq_true, if_false, hk, hl, ha, pureA_cons, pureS, orS, x, List.isEmpty_nil, Bool.true_or, Bool.true_and, Out.isPan, Out.d, beq_self_eq_true, if_true, thaw]
set_option maxHeartbeats 8000000 in
theorem fill_round (pv : D) (h0 : Heap) (M : List Int) (A : Nat → Nat → Int) (p : List Int) (s0 : Fs) (F : FillH M A p s0) (hpv : pv = intsD p ∨ (pv = .val (.slice none 0 0) ∧ p = [])) (yb db bb lb : Nat) : ∀ n, 200 ≤ n → ∀ k s, FIL pv h0 M A p s0 yb db bb lb k s → Res (k27l0.ev ⟨pg, 71, none⟩ (rc pg n) s) (Rnd (FIL pv h0 M A p s0 yb db bb lb) (fun x s => x = .exit 0 ∧ FIL pv h0 M A p s0 yb db bb lb 0 s) k) := by
  rintro n hn k s ⟨x, h, i, rfl, hik, v1, v2, v5, v6, v21, v22, v23, hF⟩
  simp only [intsD] at v21
  have hl := F.len
  by_cases hi : i < M.length
  · obtain ⟨S, hS⟩ : ∃ S, S = fillN A M.length p s0 i := ⟨_, rfl⟩
    have hSn : fillN A M.length p s0 (i + 1) = fillS A M.length p S i := by rw [hS]; rfl
    obtain ⟨a, ha⟩ : ∃ a, M[i] = a := ⟨_, rfl⟩
    have hM : M.getD i 0 = a := by rw [List.getD_eq_getElem?_getD, List.getElem?_eq_getElem hi, ha]; rfl
    have hHy := F.hy i (by omega)
    have hHr := F.hr i hi
    have hFt := fillN_t (A := A) (n := M.length) (p := p) (s := s0) i
    have hT := F.tl
    have hlc : lsF M (fillN A M.length p s0 (i + 1)).y (i + 1) = lsF M S.y i ++ [⟨a, (fillN A M.length p s0 (i + 1)).y i⟩] := by
      rw [lsF_snoc, hM]
      congr 1
      rw [hS]
      exact lsF_congr fun q hq => fillN_y hq
    rw [← hS] at v5 hF hHy hHr hFt
    have w1 : IntKind.i64.wrap ((i : Int) + 1) = (i : Int) + 1 := wrap_i64 (by omega) (by omega)
    have hfr : ∀ j, h.raw (h.next + j) = none := fun j => hF.fr _ (by omega)
    have hd := hF.d
    have hyg := hd.hy
    have hdg := hd.hd
    have hbg := hF.b
    have hlg := hF.l
    have y1 := yCs_len M.length S.y
    have b1 := bCs_len M.length S.dt
    have g1 := fun h' => yCs_at (y := S.y) hi h'
    have g3 := fun h' => bCs_at (dt := S.dt) hi h'
    have i1 : i + 1 ≤ M.length := hi
    have s103 : pg.sh 66 = false := rfl
    have s76 : pg.sh 26 = true := rfl
    have s104 : pg.sh 67 = false := rfl
    have c103 := fun H h1 h2 => callfz (h := H) s103 (frz_dt' M A (y := S.y) (dt := S.dt) (yb := yb) (db := db) h1 h2 i) (room_run M hl A F.hA S.y hHy S.dt i hi (n := n) (by omega)) rfl
    simp only [dtS, intsD, rowsD] at c103 hbg
    have ne1 : (lb = yb) = False := by have := hF.l0; have := hF.yq; simp; omega
    have ne2 : (lb = db) = False := by have := hF.l0; have := hF.dq; simp; omega
    have ne3 : (bb = yb) = False := by have := hF.b0; have := hF.yq; simp; omega
    have ne4 : (bb = db) = False := by have := hF.b0; have := hF.dq; simp; omega
    cases hdi : S.dt i with
    | true =>
      rw [hdi] at g3
      have e0 : fillS A M.length p S i = S := by unfold fillS; rw [if_pos hdi]
      simp [k72l0_eq, v1, v2, v5, v6, v21, v22, v23, hi, ha, hbg, hdg, hyg, b1, g3, i1, D.cells, D.one]
      rw [e0] at hSn
      refine fill_tail pv h0 M A p s0 hl yb db bb lb hi hik _ _ (by simp [v1]) (by simp [v2]) (by simp [v5, hSn]) (by simp [v6]) (by simp) (by simp [ha]) (by simp [v21, intsD]) (by simp [v22]) (by simp [v23]) ?_
      rw [hSn, ← hS]
      exact ((hF.bump _).bump _).bump _
    | false =>
      rw [hdi] at g3
      cases hfree : (roomI A S.dt S.y i M.length).2.2 with
      | true =>
        have e0 : fillS A M.length p S i = S.put i 0 S.t := by unfold fillS; rw [if_neg (by simp [hdi]), if_pos hfree]
        rw [e0] at hSn
        have hF6 := (((((hF.bump 71).bump 71).bump 71).bump 71).bump 71).bump 71
        obtain ⟨h', e1, d1, f1, n1, u1⟩ := set_sh' M A hF6.d hF6.fr hi 0 (f := n) (by omega)
        have c76 := call_sh (pg := pg) s76 e1
        simp only [dtS, intsD, rowsD] at c76
        simp [k72l0_eq, v1, v2, v5, v6, v21, v22, v23, hi, ha, hbg, hdg, hyg, b1, g3, i1, D.cells, D.one, c103, hfree, c76]
        refine fill_tail pv h0 M A p s0 hl yb db bb lb hi hik _ _ (by simp [v1]) (by simp [v2]) (by simp [v5, hSn, Fs.put]) (by simp [v6]) (by simp) (by simp [ha]) (by simp [v21, intsD]) (by simp [v22]) (by simp [v23]) ?_
        rw [hSn, ← hS]
        exact hF6.set d1 f1 n1 u1
      | false =>
        obtain ⟨r1, r2, r3⟩ := hHr hdi hfree
        obtain ⟨lo, hlo⟩ : ∃ lo, lo = (roomI A S.dt S.y i M.length).1 := ⟨_, rfl⟩
        obtain ⟨hi', hhi⟩ : ∃ hi', hi' = (roomI A S.dt S.y i M.length).2.1 := ⟨_, rfl⟩
        have e0 : fillS A M.length p S i = S.put i (lo + pickI p S.t (hi' - lo + 1)) (S.t + 1) := by unfold fillS; rw [if_neg (by simp [hdi]), if_neg (by simp [hfree]), hlo, hhi]
        rw [e0] at hSn
        rw [← hlo, ← hhi] at r2
        rw [← hlo] at r1
        rw [← hhi] at r3
        rw [← hlo, ← hhi] at c103
        have hpl := F.pl
        obtain ⟨q1, q2⟩ := pick_in p S.t (c := hi' - lo + 1) (by omega)
        have c104 := pick_run p (by omega) S.t (by omega) (hi' - lo + 1) (by omega) (by omega) (n := n) (by omega)
        have c104d : ∀ (y : Env 71) (b : Nat) (H : Heap), y.v 48 = pv → y.v 49 = D.int S.t → y.v 53 = D.int (hi' - lo + 1) → dcore ⟨pg, 71, none⟩ (rc pg n) b ⟨⟨none, some 54, .inr (.fn 67 [.s 48, .s 49, .s 53])⟩, some [], [], 504, false⟩ y.l H = some (D.int (pickI p S.t (hi' - lo + 1)), H) := by
          intro y b H u1 u2 u3
          refine dcore_fz _ _ _ _ _ _ pv [D.int S.t, D.int (hi' - lo + 1)] [intsD p, D.int S.t, D.int (hi' - lo + 1)] _ s104 (by simp [u1, u2, u3]) ?_ c104
          rcases hpv with rfl | ⟨rfl, rfl⟩
          · exact each_canon H 23 _ (by simp [intsD, ints_canonL])
          · rfl
        have x1 : IntKind.i64.wrap (hi' - lo) = hi' - lo := wrap_i64 (by omega) (by omega)
        have x2 : IntKind.i64.wrap (hi' - lo + 1) = hi' - lo + 1 := wrap_i64 (by omega) (by omega)
        have x3 : IntKind.i64.wrap (lo + pickI p S.t (hi' - lo + 1)) = lo + pickI p S.t (hi' - lo + 1) := wrap_i64 (by omega) (by omega)
        have x4 : IntKind.i64.wrap ((S.t : Int) + 1) = ((S.t + 1 : Nat) : Int) := by rw [wrap_i64 (by omega) (by omega)]; omega
        have hF6 := (((((hF.bump 71).bump 71).bump 71).bump 71).bump 71).bump 71
        obtain ⟨h', e1, d1, f1, n1, u1⟩ := set_sh' M A hF6.d hF6.fr hi (lo + pickI p S.t (hi' - lo + 1)) (f := n) (by omega)
        have c76 := call_sh (pg := pg) s76 e1
        simp only [dtS, intsD, rowsD] at c76
        simp [k72l0_eq, v1, v2, v5, v6, v21, v22, v23, hi, ha, hbg, hdg, hyg, b1, g3, i1, D.cells, D.one, c103, hfree, dcore_c, c104d, x1, x2, x3, x4, c76]
        refine fill_tail pv h0 M A p s0 hl yb db bb lb hi hik _ _ (by simp [v1]) (by simp [v2]) (by simp [hSn, Fs.put]) (by simp [v6]) (by simp) (by simp [ha]) (by simp [v21, intsD]) (by simp [v22]) (by simp [v23]) ?_
        rw [hSn, ← hS]
        exact (hF6.set d1 f1 n1 u1).bump _
  · simp [k72l0_eq, v22, v23, hi]
    exact ⟨_, _, i, rfl, by omega, by simp [v1], by simp [v2], by simp [v5], by simp [v6], by simp [v21, intsD], by simp [v22], by simp [v23], hF.bump _⟩
end Go.Proofs.YtfemldhlanoakaaGreatDoor
/- Chronologies, by the program. -/
namespace Go.Proofs.YtfemldhlanoakaaGreatDoor
open Go Go.Em Go.Em.Net
set_option maxRecDepth 100000
set_option maxHeartbeats 8000000 in
theorem fill_sh (M : List Int) (A : Nat → Nat → Int) (p : List Int) (s0 : Fs) (F : FillH M A p s0) (ht : s0.t = 0) {pv : D} (hpv : pv = intsD p ∨ (pv = .val (.slice none 0 0) ∧ p = [])) {yb db : Nat} {h : Heap} (hd : Dh M.length s0.y s0.dt yb db h) (hf : h.Fr) {f : Nat} (hfl : 400 ≤ f) :
    ∃ lb h', (rc pg f).fn 27 [dtS M A yb db, pv] h = some (.ret (.slr lb 0 M.length 2 (some M.length)), h') ∧ h'.get lb = some (.cells 80 ((lsF M (fillN A M.length p s0 M.length).y M.length).flatMap dtC)) ∧ Dh M.length (fillN A M.length p s0 M.length).y (fillN A M.length p s0 M.length).dt yb db h' ∧ h.next ≤ lb ∧ lb < h'.next ∧ h'.Fr ∧ h.next ≤ h'.next ∧ ∀ q, q < h.next → q ≠ yb → q ≠ db → h'.raw q = h.raw q := by
  obtain ⟨m, rfl, e⟩ := fn_body (pg := pg) (f := 27) (args := [dtS M A yb db, pv]) (h := h) (show 0 < f by omega) rfl rfl
  rw [e]
  have hl := F.len
  have hfr : ∀ j, h.raw (h.next + j) = none := fun j => hf _ (by omega)
  have hr1 : (16 : Int) * M.length ≤ (room : Int) := by unfold room; omega
  have hz : zerosD [.int .i64 0, .int .i64 0] 2 0 = [] := rfl
  have hyl := hd.yl
  have hdl := hd.dl
  simp [k27, Env.v_ini, dtS, intsD, rowsD, hfr, hr1, hz, D.cells, D.one, Nat.add_assoc, ev_loop]
  suffices hS : ∃ d h', _ = some (Out.ret ((fun lb : Nat => D.slr lb 0 M.length 2 (some M.length)) d), h') ∧ (fun (lb : Nat) (h' : Heap) => h'.get lb = some (.cells 80 ((lsF M (fillN A M.length p s0 M.length).y M.length).flatMap dtC)) ∧ Dh M.length (fillN A M.length p s0 M.length).y (fillN A M.length p s0 M.length).dt yb db h' ∧ h.next ≤ lb ∧ lb < h'.next ∧ h'.Fr ∧ h.next ≤ h'.next ∧ ∀ q, q < h.next → ¬ q = yb → ¬ q = db → h'.raw q = h.raw q) d h' by
    obtain ⟨lb, h', e1, c⟩ := hS
    exact ⟨lb, h', e1, c⟩
  refine Res.tailG (F := fun lb : Nat => D.slr lb 0 M.length 2 (some M.length)) (lp_rule 200 (FIL pv h M A p s0 yb db (h.next + 2) (h.next + 159)) _ (fill_round pv h M A p s0 F hpv yb db (h.next + 2) (h.next + 159)) M.length m _ (by omega) ⟨_, _, 0, rfl, by omega, by simp [Env.v_ini], by simp, by simp [fillN, ht], by simp, by simp [intsD], by simp, by simp, ⟨⟨by simp [show yb ≠ h.next + 2 by omega, show yb ≠ h.next + 159 by omega, hd.hy, fillN], by simp [show db ≠ h.next + 2 by omega, show db ≠ h.next + 159 by omega, hd.hd, fillN], by simp; omega, by simp; omega, hd.ne⟩, by simp [intsD, rowsD], by simp [lsF], by simp <;> omega, by simp <;> omega, by omega, hyl, hdl, by omega, by omega, ?_, by simp; omega, fun q h1 h2 h3 => by simp [show q ≠ h.next + 2 by omega, show q ≠ h.next + 159 by omega]⟩⟩) ?_
  · repeat' first | exact hf | apply Heap.Fr.bump | apply Heap.Fr.set
    all_goals first | omega | (simp <;> omega)
  · rintro x s ⟨rfl, x, h', i, rfl, hi, v1, v2, v5, v6, v21, v22, v23, hF⟩
    have hil : i = M.length := by omega
    subst hil
    have hF' := hF.bump 71
    refine ⟨h.next + 159, _, by simp [v6], hF'.l, hF'.d, hF'.l0, hF'.ll, hF'.fr, hF'.nx, fun q h1 h2 h3 => hF'.un q h1 h2 h3⟩
end Go.Proofs.YtfemldhlanoakaaGreatDoor
/- Chronologies, by the program: the function; that they keep the claims. -/
namespace Go.Proofs.YtfemldhlanoakaaGreatDoor
open Go Go.Em Go.Em.Net
set_option maxRecDepth 100000
theorem fillN_un {A : Nat → Nat → Int} {n : Nat} {p : List Int} {s : Fs} {q : Nat} : ∀ {i : Nat}, (fillN A n p s i).dt q = false → (fillN A n p s i).y q = s.y q
  | 0, _ => rfl
  | i + 1, h => by
    by_cases e : q = i
    · subst e
      have : (fillN A n p s (q + 1)).dt q = true := fillS_dt
      rw [this] at h; cases h
    · obtain ⟨a, b⟩ := fillS_ne (A := A) (n := n) (p := p) (s := fillN A n p s i) e
      have h' : (fillN A n p s i).dt q = false := by rw [← a]; exact h
      rw [← fillN_un h']
      exact b
theorem fillH_of {l : List Clm} (h0 : chkF l = 0) (hb : badF l = false) {p : List Int} (hp : p.length ≤ 4000000000000000000) {s0 : Fs} (ht : s0.t = 0) (f : FOk (marksF l).length (cloF l) s0.dt s0.y) (hy0 : ∀ j, -1000000000 ≤ s0.y j ∧ s0.y j ≤ 1000000000) : FillH (marksF l) (encM (cloF l)) p s0 := by
  have c := clo_clsd h0 hb
  have bt := clo_small h0 hb
  have ho := clo_out h0
  have ok := fillN_ok f c bt ho p
  refine ⟨(chk_ok h0).2.2, hp, by omega, enc_bd bt, fun i hi j hj => ?_, fun i hi hd hf => ?_⟩
  · cases e : (fillN (encM (cloF l)) (marksF l).length p s0 i).dt j with
    | true => have := (ok i hi).1.bd c bt hj e; omega
    | false => rw [fillN_un e]; have := hy0 j; omega
  · obtain ⟨a, b, d, _⟩ := (ok i (by omega)).1.tied c bt hi hd ho hf
    exact ⟨b, a, d⟩
theorem ls_cons (a : Int) (M : List Int) (g : Nat → Int) : lsF (a :: M) g (M.length + 1) = ⟨a, g 0⟩ :: lsF M (fun q => g (q + 1)) M.length := by
  unfold lsF
  rw [List.range_succ_eq_map, List.map_cons, List.map_map]
  rfl
theorem ms_ls : ∀ (M : List Int) (g : Nat → Int), msF (lsF M g M.length) = M
  | [], _ => rfl
  | a :: M, g => by
    rw [List.length_cons, ls_cons]
    show a :: msF _ = _
    rw [ms_ls M]
theorem yOf_ls {v : Int} : ∀ (M : List Int) (g : Nat → Int), v ∈ M → yOf (lsF M g M.length) v = g (placeF M v)
  | [], _, h => absurd h List.not_mem_nil
  | a :: M, g, h => by
    rw [List.length_cons, ls_cons]
    unfold yOf placeF
    rw [List.idxOf_cons]
    by_cases e : a = v
    · subst e; simp
    · have e' : (a == v) = false := by simpa using e
      have hv : v ∈ M := by
        rcases List.mem_cons.1 h with h | h
        · exact absurd h.symm e
        · exact h
      have := yOf_ls M (fun q => g (q + 1)) hv
      unfold placeF at this
      simp only [e', Bool.false_eq_true, if_false, cond_false]
      exact this
/-- Years that break no bound keep the claims. -/
theorem keep_ok {l : List Clm} (h0 : chkF l = 0) (hb : badF l = false) {y : Nat → Int} (hk : ∀ i j c, i < (marksF l).length → j < (marksF l).length → cloF l i j = some c → y j ≤ y i + c) (hy : ∀ j, j < (marksF l).length → -1000000000 ≤ y j ∧ y j ≤ 1000000000) (hz : ∀ h : 0 < (marksF l).length, (marksF l)[0] = 0 → y 0 = 0) : keepF l (lsF (marksF l) y (marksF l).length) = 0 := by
  obtain ⟨h1, h2, h3⟩ := chk_ok h0
  have kn := kn_EF (good_movs h0).hin
  unfold keepF
  rw [if_neg (by simpa using h0), if_neg (by rw [ms_ls]; simp), if_pos]
  constructor
  · unfold yrsOk
    rw [List.all_eq_true]
    intro d hd
    obtain ⟨q, hq, rfl⟩ := List.mem_map.1 hd
    have hq := List.mem_range.1 hq
    have hyq := hy q hq
    have e1 : inR (y q) (-1000000000) 1000000000 = true := by unfold inR; simp; omega
    have e2 : (((marksF l).getD q 0 == 0) && (y q != 0)) = false := by
      rw [Bool.and_eq_false_iff]
      by_cases hm : (marksF l).getD q 0 = 0
      · right
        have hmq : (marksF l)[q] = 0 := by rw [List.getD_eq_getElem?_getD, List.getElem?_eq_getElem hq] at hm; exact hm
        have hq0 : q = 0 := by
          apply Decidable.byContradiction; intro hne
          have h5 := List.pairwise_iff_getElem.1 (marks_rise l) 0 q (by omega) hq (by omega)
          have h6 : 0 ≤ (marksF l)[0]'(by omega) := by
            obtain ⟨c, hc, e⟩ := (marks_mem l _).1 (List.getElem_mem (show 0 < (marksF l).length by omega))
            have := ok_marks (h2 c hc)
            rcases e with e | e <;> omega
          omega
        subst hq0
        rw [hz hq hmq]; rfl
      · left; simpa using hm
    show (!(!(inR (y q) (-1000000000) 1000000000) || (((marksF l).getD q 0 == 0) && (y q != 0)))) = true
    rw [e1, e2]; rfl
  · unfold clsOk
    rw [List.all_eq_true]
    intro c hc
    have ha : c.a ∈ marksF l := (marks_mem l c.a).2 ⟨c, hc, .inl rfl⟩
    have hbm : c.b ∈ marksF l := (marks_mem l c.b).2 ⟨c, hc, .inr rfl⟩
    have ea := yOf_ls (marksF l) y ha
    have eb := yOf_ls (marksF l) y hbm
    obtain ⟨la, _⟩ := place_at ha
    obtain ⟨lb, _⟩ := place_at hbm
    have way : ∀ m : Mv, m ∈ mvs (movsF (marksF l) 0 l) → m.1 < (marksF l).length → m.2.1 < (marksF l).length → y m.2.1 ≤ y m.1 + m.2.2 := by
      intro m hm l1 l2
      obtain ⟨z, hz1, hz2⟩ := kn.hm m hm
      obtain ⟨w, hw1, hw2⟩ := fw_mono (E := netF l) 0 (marksF l).length (show fw (netF l) 0 m.1 m.2.1 = some z from hz1)
      rw [Nat.zero_add] at hw1
      have := hk m.1 m.2.1 w l1 l2 hw1
      omega
    have w1 := way (placeF (marksF l) c.a, placeF (marksF l) c.b, c.hi) (mvs_mem.2 ⟨c, hc, .inl rfl⟩) la lb
    have w2 := way (placeF (marksF l) c.b, placeF (marksF l) c.a, -c.lo) (mvs_mem.2 ⟨c, hc, .inr rfl⟩) lb la
    simp only at w1 w2
    unfold clB
    rw [ea, eb]
    have n1 : ¬ (y (placeF (marksF l) c.b) - y (placeF (marksF l) c.a) < c.lo) := by omega
    have n2 : ¬ (y (placeF (marksF l) c.b) - y (placeF (marksF l) c.a) > c.hi) := by omega
    simp [n1, n2]
/-! ### Chronology -/
def s00 : Fs := ⟨fun _ => false, fun _ => 0, 0⟩
theorem f00 (n : Nat) (N : Mx) : FOk n N s00.dt s00.y := ⟨fun i j c h _ _ => (by cases h), fun j hj h => (by cases h)⟩
/-- The years that the program chooses. -/
def chrY (l : List Clm) (p : List Int) : Nat → Int := (fillN (encM (cloF l)) (marksF l).length p s00 (marksF l).length).y
theorem dts_frz (L : List Dt) {n lb : Nat} {h : Heap} (hn : n = L.length) (hg : h.get lb = some (.cells 80 (L.flatMap dtC))) (k : Nat) : frz h (k + 3) (.slr lb 0 n 2 (some n)) = some (dtsD L, [lb]) := by
  have hea := each_canon h (k + 1) (L.flatMap dtC) (canonL_flatMap dtC (fun c => by simp [dtC]) L)
  have hc : (L.flatMap dtC).take (n * 2) = L.flatMap dtC := List.take_of_length_le (by rw [ls_cells]; omega)
  have hch := chunk_flatMap (sz := 2) dtC (by decide) (fun _ => rfl) L n hn
  rw [frz_slr, hg, frzS_cells]
  simp only [List.drop_zero, hc, hea, Option.map_some, hch, Nat.zero_add]
  rw [if_pos ⟨by rw [ls_cells]; omega, by omega⟩]; rfl
end Go.Proofs.YtfemldhlanoakaaGreatDoor
/- The years of a part are moved, by the program. -/
namespace Go.Proofs.YtfemldhlanoakaaGreatDoor
open Go Go.Em Go.Em.Net
set_option maxRecDepth 100000
def fnF : D := .fn (.func 69) [] []
theorem nf_run (a : Int) {n : Nat} (hn : 1 ≤ n) : pureCall (rc pg n) 69 [D.int a] = some (.ret (D.bool (a != 1000000000))) := by
  obtain ⟨m, rfl, e⟩ := body (pg := pg) (f := 69) (args := [D.int a]) (show 0 < n by omega) rfl rfl
  rw [e]
  simp [-bne_iff_ne, k69, Env.v_ini]
def XnI (l : List Int) (k : Nat) (s : St) : Prop := ∃ (x : Env 19) (h : Heap) (i : Nat), s = ⟨x.l, h, []⟩ ∧ i + k = l.length ∧ x.v 0 = intsD l ∧ x.v 1 = fnF ∧ x.v 7 = D.int l.length ∧ x.v 8 = D.int i ∧ ixP (fun v => v != 1000000000) 0 l = ixP (fun v => v != 1000000000) i (l.drop i)
def XnQ (l : List Int) (x : Ex) (s : St) : Prop :=
  (x = .exit 0 ∧ ixP (fun v : Int => v != 1000000000) 0 l = -1 ∧ ∃ (x : Env 19) (h : Heap), s = ⟨x.l, h, []⟩) ∨ (x = .ret ∧ ∃ (x : Env 19) (h : Heap), s = ⟨x.l, h, []⟩ ∧ x.v 4 = D.int (ixP (fun v => v != 1000000000) 0 l))
set_option maxHeartbeats 1000000 in
theorem xn_round (l : List Int) (hl : l.length ≤ 64) : ∀ n, 1 ≤ n → ∀ k s, XnI l k s → Res (k68l0.ev ⟨pg, 19, none⟩ (rc pg n) s) (Rnd (XnI l) (XnQ l) k) := by
  rintro n hn k s ⟨x, h, i, rfl, hik, v0, v1, v7, v8, ho⟩
  have hp := fun c h => call_of (h := h) (pg := pg) (f := 69) (args := [D.int c]) rfl (by simp) (@nf_run c n hn)
  simp only [intsD, fnF] at v0 v1
  by_cases hlt : i < l.length
  · obtain ⟨r, hr⟩ : ∃ r, l[i] = r := ⟨l[i], rfl⟩
    have hd : l.drop i = r :: l.drop (i + 1) := by rw [List.drop_eq_getElem_cons hlt, hr]
    rw [hd, ixP] at ho
    have hw1 : IntKind.i64.wrap ((i : Int) + 1) = (i : Int) + 1 := wrap_i64 (by omega) (by omega)
    cases he : (r != 1000000000) with
    | true =>
      have hpr := fun h => hp r h
      simp only [he, if_true] at ho hpr
      simp [-bne_iff_ne, k68l0, v0, v1, v7, v8, hlt, hr, D.cells, hpr]
      exact .inr ⟨rfl, _, _, rfl, by simp [ho]⟩
    | false =>
      have hpr := fun h => hp r h
      simp only [he, Bool.false_eq_true, if_false] at ho hpr
      simp [-bne_iff_ne, k68l0, v0, v1, v7, v8, hlt, hr, D.cells, hpr, hw1]
      exact ⟨k - 1, by omega, _, _, i + 1, rfl, by omega, by simp [v0, intsD], by simp [v1, fnF], by simp [v7], by simp, ho⟩
  · simp [k68l0, v7, v8, hlt]
    have hi : i = l.length := by omega
    rw [hi, List.drop_length] at ho
    exact .inl ⟨rfl, ho, _, _, rfl⟩
theorem xn_run (l : List Int) (hl : l.length ≤ 64) {n : Nat} (hn : 100 ≤ n) : pureCall (rc pg n) 68 [intsD l, fnF] = some (.ret (D.int (ixP (fun v => v != 1000000000) 0 l))) := by
  obtain ⟨m, rfl, e⟩ := body (pg := pg) (f := 68) (args := [intsD l, fnF]) (show 0 < n by omega) rfl rfl
  rw [e]
  simp [k68, Env.v_ini, intsD, fnF, ev_loop]
  refine Res.endsAfter (lp_rule 1 (XnI l) (XnQ l) (xn_round l hl) l.length m _ (by omega) ⟨_, _, 0, rfl, by omega, by simp [Env.v_ini, intsD], by simp [Env.v_ini, fnF], by simp, by simp, rfl⟩) ?_
  rintro x s (⟨rfl, ho, x, h, rfl⟩ | ⟨rfl, x, h, rfl, v4⟩)
  · simp [ho]
  · simp [v4]
/-- The first mark of the part of a mark. -/
theorem first_of {n : Nat} {y : Nat → Int} {i : Nat} (hi : i < n) (hy : y i ≠ 1000000000) : ∃ f : Nat, ixP (fun v => v != 1000000000) 0 ((List.range n).map y) = (f : Int) ∧ f < n ∧ y f ≠ 1000000000 ∧ ∀ j, j < f → y j = 1000000000 := by
  rcases ixP_ge (fun v : Int => v != 1000000000) ((List.range n).map y) 0 with ⟨_, h⟩ | ⟨j, h1, h2, h3, h4, h5⟩
  · have := h (y i) (List.mem_map.2 ⟨i, List.mem_range.2 hi, rfl⟩)
    simp at this
    exact absurd this hy
  · have hj : j < n := by simpa using h2
    refine ⟨j, by rw [h1, Nat.zero_add], hj, ?_, fun q hq => ?_⟩
    · have : ((List.range n).map y)[j]'h4 = y j := by simp
      rw [this] at h5
      simpa using h5
    · have := h3 (y q) (by
        rw [List.mem_take_iff_getElem]
        exact ⟨q, by simp; omega, by simp⟩)
      simpa using this
/-- Years of a part, less a year. -/
def movY (A : Nat → Nat → Int) (a : Nat) (v : Int) (y : Nat → Int) (J : Nat) : Nat → Int := fun j => if j < J ∧ A a j ≠ 1000000000 then y j - v else y j
def BgI (h0 : Heap) (M : List Int) (A : Nat → Nat → Int) (a : Nat) (v : Int) (y : Nat → Int) (lb bb : Nat) (yb db : Nat) (k : Nat) (s : St) : Prop := ∃ (x : Env 43) (h : Heap) (j : Nat), s = ⟨x.l, h, []⟩ ∧ j + k = M.length ∧ x.v 1 = D.int a ∧ x.v 2 = .slr lb 0 M.length 2 (some M.length) ∧ x.v 3 = .ptr bb 0 ∧ x.v 7 = D.int v ∧ x.v 23 = D.int M.length ∧ x.v 24 = D.int j ∧ h.get bb = some (.cells 60 [intsD M, rowsD M.length A, .slr yb 0 M.length 1 (some M.length), .slr db 0 M.length 1 (some M.length)]) ∧ h.get lb = some (.cells 80 ((lsF M (movY A a v y j) M.length).flatMap dtC)) ∧ bb ≠ lb ∧ bb < h.next ∧ lb < h0.next ∧ h.Fr ∧ h0.next ≤ h.next ∧ ∀ q, q < h0.next → q ≠ lb → h.raw q = h0.raw q
end Go.Proofs.YtfemldhlanoakaaGreatDoor
/- The years of a part are moved, by the program: the loop; the function. -/
namespace Go.Proofs.YtfemldhlanoakaaGreatDoor
open Go Go.Em Go.Em.Net
set_option maxRecDepth 100000
theorem dl_get : ∀ (L : List Dt) (j : Nat) (hj : j < L.length), (L.flatMap dtC)[j * 2 + 1]? = some (D.int L[j].y)
  | a :: L, 0, _ => rfl
  | a :: L, j + 1, h => by
    have ih := dl_get L j (by simpa using h)
    rw [List.flatMap_cons]
    show (dtC a ++ L.flatMap dtC)[(j + 1) * 2 + 1]? = _
    rw [List.getElem?_append_right (by simp [dtC]; omega)]
    rw [show (j + 1) * 2 + 1 - (dtC a).length = j * 2 + 1 by simp [dtC]; omega, ih]
    rfl
theorem dl_set (w : Int) : ∀ (L : List Dt) (j : Nat) (hj : j < L.length), (L.flatMap dtC).set (j * 2 + 1) (D.int w) = (L.set j ⟨L[j].m, w⟩).flatMap dtC
  | a :: L, 0, _ => rfl
  | a :: L, j + 1, h => by
    have ih := dl_set w L j (by simpa using h)
    rw [List.flatMap_cons, List.set_append_right _ _ (by simp [dtC]; omega), show (j + 1) * 2 + 1 - (dtC a).length = j * 2 + 1 by simp [dtC]; omega, ih]
    rfl
theorem ls_set {M : List Int} {g : Nat → Int} {n j : Nat} (hj : j < n) (w : Int) (h : j < (lsF M g n).length) : (lsF M g n).set j ⟨(lsF M g n)[j].m, w⟩ = lsF M (fun q => if q = j then w else g q) n := by
  apply List.ext_getElem?
  intro i
  unfold lsF
  rw [List.getElem?_set]
  by_cases hi : i < n
  · by_cases hij : j = i
    · subst hij; simp [hi]
    · have : ¬ i = j := fun e => hij e.symm
      simp [hij, hi, this]
  · by_cases hij : j = i
    · subst hij; simp [hi]
    · simp [hij, hi]
theorem mov_tied {A : Nat → Nat → Int} {a : Nat} {v : Int} {y : Nat → Int} {J : Nat} (h : A a J ≠ 1000000000) : movY A a v y (J + 1) = fun q => if q = J then y J - v else movY A a v y J q := by
  funext q
  unfold movY
  by_cases e : q = J
  · subst e; simp [h]
  · have : (q < J + 1) = (q < J) := by simp; omega
    simp [e, this]
theorem mov_far {A : Nat → Nat → Int} {a : Nat} {v : Int} {y : Nat → Int} {J : Nat} (h : A a J = 1000000000) : movY A a v y (J + 1) = movY A a v y J := by
  funext q
  unfold movY
  by_cases e : q = J
  · subst e; simp [h]
  · have : (q < J + 1) = (q < J) := by simp; omega
    simp [this]
set_option maxHeartbeats 8000000 in
theorem bg_round (h0 : Heap) (M : List Int) (hl : M.length ≤ 64) (A : Nat → Nat → Int) (a : Nat) (ha : a < M.length) (v : Int) (y : Nat → Int) (hv : -1000000000000 ≤ v ∧ v ≤ 1000000000000) (hy : ∀ j, j < M.length → -1000000000000 ≤ y j ∧ y j ≤ 1000000000000) (lb bb yb db : Nat) : ∀ n, 1 ≤ n → ∀ k s, BgI h0 M A a v y lb bb yb db k s → Res (k28l0.ev ⟨pg, 43, none⟩ (rc pg n) s) (Rnd (BgI h0 M A a v y lb bb yb db) (fun x s => x = .exit 0 ∧ BgI h0 M A a v y lb bb yb db 0 s) k) := by
  rintro n hn k s ⟨x, h, j, rfl, hjk, v1, v2, v3, v7, v23, v24, hb, hlb, hne, hbl, hll, hf, hnx, hu⟩
  by_cases hj : j < M.length
  · have w1 : IntKind.i64.wrap ((j : Int) + 1) = (j : Int) + 1 := wrap_i64 (by omega) (by omega)
    have hc1 := ints_canonL M
    have hc2 := rows_canonL M.length A
    have f1 := fun h => call_of (h := h) (pg := pg) (f := 23) rfl (by simp [nD, intsD, rowsD, hc1, hc2]) (far_run M A ha hj hn)
    simp only [nD, intsD, rowsD] at f1 hb
    by_cases hfar : A a j = 1000000000
    · have hf' : (A a j == 1000000000) = true := by simp [hfar]
      simp [-beq_iff_eq, k28l0, v1, v2, v3, v7, v23, v24, hj, D.cells, D.one, hb, f1, hf', w1]
      exact ⟨k - 1, by omega, _, _, j + 1, rfl, by omega, by simp [v1], by simp [v2], by simp [v3], by simp [v7], by simp [v23], by simp, by simp [hb, intsD, rowsD], by rw [mov_far hfar]; simp [hlb], hne, by simp; omega, hll, ((hf.bump _).bump _).bump _ |>.bump _, by simp; omega, fun q h1 h2 => by simpa using hu q h1 h2⟩
    · have hf' : (A a j == 1000000000) = false := by simp [hfar]
      obtain ⟨L, hL⟩ : ∃ L, L = lsF M (movY A a v y j) M.length := ⟨_, rfl⟩
      have hLl : L.length = M.length := by rw [hL, lsF_len]
      have hLj : j < L.length := by omega
      have hyj : L[j].y = y j := by
        have : L[j]? = some ⟨M.getD j 0, movY A a v y j j⟩ := by rw [hL]; unfold lsF; simp [hj]
        rw [List.getElem?_eq_getElem hLj] at this
        rw [Option.some.inj this]
        simp [movY]
      have g1 := dl_get L j hLj
      rw [hyj] at g1
      have st1 := dl_set (y j - v) L j hLj
      have st2 : L.set j ⟨L[j].m, y j - v⟩ = lsF M (movY A a v y (j + 1)) M.length := by
        have := ls_set (M := M) (g := movY A a v y j) hj (y j - v) (by rw [lsF_len]; exact hj)
        rw [mov_tied hfar, ← this]
        subst hL
        rfl
      rw [st2] at st1
      rw [← hL] at hlb
      have hcl := ls_cells L
      have hyj' := hy j hj
      have w2 : IntKind.i64.wrap (y j - v) = y j - v := wrap_i64 (by omega) (by omega)
      have hlt : j * 2 + 1 < (L.flatMap dtC).length := by omega
      rw [List.set_eq_take_append_cons_drop, if_pos hlt] at st1
      obtain ⟨C, hC⟩ : ∃ C, C = L.flatMap dtC := ⟨_, rfl⟩
      obtain ⟨C2, hC2⟩ : ∃ C2, C2 = (lsF M (movY A a v y (j + 1)) M.length).flatMap dtC := ⟨_, rfl⟩
      rw [← hC] at hlb st1 hcl hlt
      rw [← hC] at g1
      rw [← hC2] at st1
      have i1 : j * 2 + 1 + 1 ≤ C.length := by omega
      have nlb : ∀ q, (lb = h.next + q) = False := fun q => by simp; omega
      simp [-beq_iff_eq, -beq_eq_false_iff_ne, k28l0, v1, v2, v3, v7, v23, v24, hj, D.cells, D.one, hb, f1, hf', w1, hlb, g1, i1, w2, st1, w1]
      refine ⟨k - 1, by omega, _, _, j + 1, rfl, by omega, by simp [v1], by simp [v2], by simp [v3], by simp [v7], by simp [v23], by simp, by simp [hne, hb, intsD, rowsD], by simp [hC2], hne, by simp; omega, hll, ?_, by simp; omega, fun q h1 h2 => ?_⟩
      · repeat' first | exact hf | apply Heap.Fr.bump | apply Heap.Fr.set
        all_goals first | omega | (simp <;> omega)
      · have := hu q h1 h2
        simp [h2, this]
  · simp [k28l0, v23, v24, hj]
    exact ⟨_, _, j, rfl, by omega, by simp [v1], by simp [v2], by simp [v3], by simp [v7], by simp [v23], by simp [v24], by simp [hb], by simp [hlb], hne, by simp; omega, hll, hf.bump _, by simp; omega, fun q h1 h2 => by simpa using hu q h1 h2⟩
end Go.Proofs.YtfemldhlanoakaaGreatDoor
/- A number of years between two marks is attained, by the program. -/
namespace Go.Proofs.YtfemldhlanoakaaGreatDoor
open Go Go.Em Go.Em.Net
set_option maxRecDepth 100000
set_option maxHeartbeats 8000000 in
theorem beg_sh (M : List Int) (hl : M.length ≤ 64) (A : Nat → Nat → Int) {a : Nat} (ha : a < M.length) (hAa : A a a ≠ 1000000000) (y : Nat → Int) (hy : ∀ j, j < M.length → -1000000000000 ≤ y j ∧ y j ≤ 1000000000000) {lb yb db : Nat} {h : Heap} (hg : h.get lb = some (.cells 80 ((lsF M y M.length).flatMap dtC))) (hlb : lb < h.next) (hf : h.Fr) {f : Nat} (hfl : 400 ≤ f) :
    ∃ fi h', fi < M.length ∧ A a fi ≠ 1000000000 ∧ (∀ j, j < fi → A a j = 1000000000) ∧ (rc pg f).fn 28 [dtS M A yb db, D.int a, .slr lb 0 M.length 2 (some M.length)] h = some (.ret (.tup []), h') ∧ h'.get lb = some (.cells 80 ((lsF M (movY A a (y fi) y M.length) M.length).flatMap dtC)) ∧ lb < h'.next ∧ h'.Fr ∧ ∀ q, q < h.next → q ≠ lb → h'.raw q = h.raw q := by
  obtain ⟨m, rfl, e⟩ := fn_body (pg := pg) (f := 28) (args := [dtS M A yb db, D.int a, .slr lb 0 M.length 2 (some M.length)]) (h := h) (show 0 < f by omega) rfl rfl
  rw [e]
  obtain ⟨fi, e1, e2, e3, e4⟩ := first_of (y := A a) ha hAa
  have hfr : ∀ j, h.raw (h.next + j) = none := fun j => hf _ (by omega)
  have c105 := fun h => call_of (h := h) (pg := pg) (f := 68) rfl (by have := ints_canonL ((List.range M.length).map (A a)); simp only [intsD, fnF]; simp [-List.map_map, this]) (@xn_run ((List.range M.length).map (A a)) (by simp; omega) m (by omega))
  rw [e1] at c105
  simp only [intsD, fnF, ← yCs_ints] at c105
  obtain ⟨L, hL⟩ : ∃ L, L = lsF M y M.length := ⟨_, rfl⟩
  have hLl : L.length = M.length := by rw [hL, lsF_len]
  have hLj : fi < L.length := by omega
  have hyj : L[fi].y = y fi := by
    have : L[fi]? = some ⟨M.getD fi 0, y fi⟩ := by rw [hL]; unfold lsF; simp [e2]
    rw [List.getElem?_eq_getElem hLj] at this
    rw [Option.some.inj this]
  have g1 := dl_get L fi hLj
  rw [hyj] at g1
  have hcl := ls_cells L
  have hlt : fi * 2 + 1 < (L.flatMap dtC).length := by omega
  have e0 : movY A a (y fi) y 0 = y := by funext q; simp [movY]
  rw [← hL] at hg
  obtain ⟨C, hC⟩ : ∃ C, C = L.flatMap dtC := ⟨_, rfl⟩
  rw [← hC] at hg g1 hcl hlt
  have i1 : fi * 2 + 1 + 1 ≤ C.length := by omega
  have n1 : ∀ q, (lb = h.next + q) = False := fun q => by simp; omega
  have y1 := yCs_len M.length (A a)
  simp [k28, Env.v_ini, dtS, intsD, rowsD, hfr, D.cells, D.one, Nat.add_assoc, ha, y1, c105, e2, hg, g1, i1, n1, ev_loop]
  have hv := hy fi e2
  refine ⟨fi, e2, e3, e4, ?_⟩
  refine Res.fin (C := fun h' => h'.get lb = some (.cells 80 ((lsF M (movY A a (y fi) y M.length) M.length).flatMap dtC)) ∧ lb < h'.next ∧ h'.Fr ∧ ∀ q, q < h.next → ¬ q = lb → h'.raw q = h.raw q) (lp_rule 1 (BgI h M A a (y fi) y lb (h.next + 3) yb db) _ (bg_round h M hl A a ha (y fi) y hv hy lb (h.next + 3) yb db) M.length m _ (by omega) ⟨_, _, 0, rfl, by omega, by simp [Env.v_ini], by simp [Env.v_ini], by simp, by simp, by simp, by simp, by simp [intsD, rowsD], by rw [e0]; simp [n1, hg, hC, hL], by omega, by simp <;> omega, hlb, ?_, by simp <;> omega, fun q h1 h2 => by simp [show q ≠ h.next + 3 by omega]⟩) ?_
  · repeat' first | exact hf | apply Heap.Fr.bump | apply Heap.Fr.set
    all_goals first | omega | (simp <;> omega)
  · rintro x s ⟨rfl, x, h', j, rfl, hj, v1, v2, v3, v7, v23, v24, hb, hlb', hne, hbl, hll, hf', hnx, hu⟩
    have hjl : j = M.length := by omega
    subst hjl
    exact ⟨h', by simp, hlb', by omega, hf', hu⟩
/-- The error of Attain. -/
def aerF (l : List Clm) (a b n : Int) : Int := if errF l a b ≠ 0 then errF l a b else if encM (cloF l) (placeF (marksF l) a) (placeF (marksF l) b) = 1000000000 then 5 else if -(encM (cloF l) (placeF (marksF l) b) (placeF (marksF l) a)) ≤ n ∧ n ≤ encM (cloF l) (placeF (marksF l) a) (placeF (marksF l) b) then 0 else 23
/-- What stands when the other marks are dated. -/
def attS (pa pb : Nat) (n : Int) : Fs := ⟨fun q => if q = pb then true else if q = pa then true else false, fun q => if q = pb then n else if q = pa then 0 else 0, 0⟩
def attY (l : List Clm) (pa pb : Nat) (n : Int) : Nat → Int := (fillN (encM (cloF l)) (marksF l).length [] (attS pa pb n) (marksF l).length).y
theorem att_ok {l : List Clm} (h0 : chkF l = 0) (hb : badF l = false) {pa pb : Nat} (ha : pa < (marksF l).length) (hbb : pb < (marksF l).length) {n : Int} (hf : encM (cloF l) pa pb ≠ 1000000000) (h1 : -(encM (cloF l) pb pa) ≤ n) (h2 : n ≤ encM (cloF l) pa pb) : FOk (marksF l).length (cloF l) (attS pa pb n).dt (attS pa pb n).y ∧ -100000000 ≤ n ∧ n ≤ 100000000 := by
  have c := clo_clsd h0 hb
  have bt := clo_small h0 hb
  have hn1 : cloF l pa pb ≠ none := fun e => hf ((enc_far bt).2 e)
  obtain ⟨u, hu⟩ := Option.ne_none_iff_exists'.1 hn1
  obtain ⟨w, hw⟩ := Option.ne_none_iff_exists'.1 (c.sym hn1)
  rw [enc_some hu] at h2
  rw [enc_some hw] at h1
  have bu := bt _ _ _ hu
  have bw := bt _ _ _ hw
  have ey : ∀ q, (attS pa pb n).y q = if q = pb then n else 0 := fun q => by
    show (if q = pb then n else if q = pa then 0 else 0) = _
    split <;> simp
  have ed : ∀ q, (attS pa pb n).dt q = true ↔ q = pb ∨ q = pa := fun q => by
    show (if q = pb then true else if q = pa then true else false) = true ↔ _
    by_cases e1 : q = pb <;> by_cases e2 : q = pa <;> simp [e1, e2]
  refine ⟨⟨fun i j z hi hj hz => ?_, fun j hj hd => ⟨pa, ha, (ed pa).2 (.inr rfl), ?_, ?_⟩⟩, by omega, by omega⟩
  · rw [ey, ey]
    have hi' := (ed i).1 hi
    have hj' := (ed j).1 hj
    by_cases eij : i = j
    · subst eij
      have hil : i < (marksF l).length := by rcases hi' with rfl | rfl <;> assumption
      rw [c.diag _ hil] at hz
      have := Option.some.inj hz
      omega
    · rcases hi' with rfl | rfl <;> rcases hj' with rfl | rfl
      · exact absurd rfl eij
      · rw [hw] at hz
        have := Option.some.inj hz
        rw [if_neg (fun e => eij e.symm), if_pos rfl]
        omega
      · rw [hu] at hz
        have := Option.some.inj hz
        rw [if_pos rfl, if_neg eij]
        omega
      · exact absurd rfl eij
  · rcases (ed j).1 hd with rfl | rfl
    · exact hn1
    · rw [c.diag _ ha]; simp
  · rw [ey]
    split <;> omega
end Go.Proofs.YtfemldhlanoakaaGreatDoor
/- A number of years between two marks is attained: the years that are told keep the claims. -/
namespace Go.Proofs.YtfemldhlanoakaaGreatDoor
open Go Go.Em Go.Em.Net
set_option maxRecDepth 100000
theorem att_bd {l : List Clm} (h0 : chkF l = 0) (hb : badF l = false) {pa pb : Nat} (ha : pa < (marksF l).length) (hbb : pb < (marksF l).length) {n : Int} (hf : encM (cloF l) pa pb ≠ 1000000000) (h1 : -(encM (cloF l) pb pa) ≤ n) (h2 : n ≤ encM (cloF l) pa pb) : ∀ j, j < (marksF l).length → -200000000 ≤ attY l pa pb n j ∧ attY l pa pb n j ≤ 200000000 := by
  have c := clo_clsd h0 hb
  have bt := clo_small h0 hb
  obtain ⟨F, hn1, hn2⟩ := att_ok h0 hb ha hbb hf h1 h2
  obtain ⟨ok, dall⟩ := fillN_ok F c bt (clo_out h0) [] (marksF l).length (Nat.le_refl _)
  exact fun j hj => ok.bd c bt hj (dall j hj)
theorem att_keep {l : List Clm} (h0 : chkF l = 0) (hb : badF l = false) {pa pb : Nat} (ha : pa < (marksF l).length) (hbb : pb < (marksF l).length) {n : Int} (hf : encM (cloF l) pa pb ≠ 1000000000) (h1 : -(encM (cloF l) pb pa) ≤ n) (h2 : n ≤ encM (cloF l) pa pb) {fi : Nat} (f1 : fi < (marksF l).length) (f2 : encM (cloF l) pa fi ≠ 1000000000) (f3 : ∀ j, j < fi → encM (cloF l) pa j = 1000000000) :
    keepF l (lsF (marksF l) (movY (encM (cloF l)) pa (attY l pa pb n fi) (attY l pa pb n) (marksF l).length) (marksF l).length) = 0 ∧ movY (encM (cloF l)) pa (attY l pa pb n fi) (attY l pa pb n) (marksF l).length pb - movY (encM (cloF l)) pa (attY l pa pb n fi) (attY l pa pb n) (marksF l).length pa = n ∧ ∀ j, j < (marksF l).length → -200000000 ≤ attY l pa pb n j ∧ attY l pa pb n j ≤ 200000000 := by
  have c := clo_clsd h0 hb
  have bt := clo_small h0 hb
  have ho := clo_out h0
  obtain ⟨F, hn1, hn2⟩ := att_ok h0 hb ha hbb hf h1 h2
  obtain ⟨ok, dall⟩ := fillN_ok F c bt ho [] (marksF l).length (Nat.le_refl _)
  have hbd : ∀ j, j < (marksF l).length → -200000000 ≤ attY l pa pb n j ∧ attY l pa pb n j ≤ 200000000 := fun j hj => ok.bd c bt hj (dall j hj)
  have hk : ∀ i j z, i < (marksF l).length → j < (marksF l).length → cloF l i j = some z → attY l pa pb n j ≤ attY l pa pb n i + z := fun i j z hi hj hz => ok.kept i j z (dall i hi) (dall j hj) hz
  have far : ∀ j, encM (cloF l) pa j = 1000000000 ↔ cloF l pa j = none := fun j => enc_far bt
  have tie : ∀ {i j : Nat}, i < (marksF l).length → cloF l i j ≠ none → cloF l pa i ≠ none → cloF l pa j ≠ none := fun {i j} hi hij hpi => by
    obtain ⟨u, hu⟩ := Option.ne_none_iff_exists'.1 hij
    obtain ⟨w, hw⟩ := Option.ne_none_iff_exists'.1 hpi
    obtain ⟨z, hz, _⟩ := c.via hi hw hu
    rw [hz]; simp
  have ey : ∀ q, (attS pa pb n).dt q = true → attY l pa pb n q = (attS pa pb n).y q := fun q hq => by
    have := (fillN_keep (A := encM (cloF l)) (n := (marksF l).length) (p := []) (s := attS pa pb n) (k := 0) (q := q) hq (marksF l).length).2
    rw [Nat.zero_add] at this
    exact this
  have ya : attY l pa pb n pa = if pa = pb then n else 0 := by
    rw [ey pa (by show (if pa = pb then true else if pa = pa then true else false) = true; simp)]
    show (if pa = pb then n else if pa = pa then 0 else 0) = _
    simp
  have yb : attY l pa pb n pb = n := by
    rw [ey pb (by show (if pb = pb then true else if pb = pa then true else false) = true; simp)]
    show (if pb = pb then n else if pb = pa then 0 else 0) = _
    simp
  have same : pa = pb → n = 0 := fun e => by
    subst e
    have := enc_some (c.diag _ ha)
    omega
  have mv : ∀ j, j < (marksF l).length → movY (encM (cloF l)) pa (attY l pa pb n fi) (attY l pa pb n) (marksF l).length j = if cloF l pa j ≠ none then attY l pa pb n j - attY l pa pb n fi else attY l pa pb n j := fun j hj => by
    unfold movY
    by_cases e : cloF l pa j = none
    · rw [if_neg (fun x => x.2 ((far j).2 e)), if_neg (fun x => x e)]
    · rw [if_pos ⟨hj, fun x => e ((far j).1 x)⟩, if_pos e]
  have hnb : cloF l pa pb ≠ none := fun e => hf ((far pb).2 e)
  have hna : cloF l pa pa ≠ none := by rw [c.diag _ ha]; simp
  have bfi := hbd fi f1
  refine ⟨keep_ok h0 hb (fun i j z hi hj hz => ?_) (fun j hj => ?_) (fun hn _ => ?_), ?_, hbd⟩
  · rw [mv i hi, mv j hj]
    have := hk i j z hi hj hz
    by_cases e : cloF l pa i = none
    · have e2 : cloF l pa j = none := Decidable.byContradiction fun e2 => tie hj (c.sym (show cloF l i j ≠ none by rw [hz]; simp)) e2 e
      rw [if_neg (fun x => x e2), if_neg (fun x => x e)]
      exact this
    · have e2 : cloF l pa j ≠ none := tie hi (by rw [hz]; simp) e
      rw [if_pos e2, if_pos e]
      omega
  · rw [mv j hj]
    have := hbd j hj
    split <;> omega
  · rw [mv 0 hn]
    by_cases e : cloF l pa 0 = none
    · rw [if_neg (fun x => x e)]
      have n1 : pa ≠ 0 := fun x => by subst x; exact hna e
      have n2 : pb ≠ 0 := fun x => by subst x; exact hnb e
      have hd0 : (attS pa pb n).dt 0 = false := by
        show (if 0 = pb then true else if 0 = pa then true else false) = false
        simp [Ne.symm n1, Ne.symm n2]
      have h10 : (fillN (encM (cloF l)) (marksF l).length [] (attS pa pb n) 1).y 0 = 0 := by
        show (fillS (encM (cloF l)) (marksF l).length [] (attS pa pb n) 0).y 0 = 0
        unfold fillS
        rw [if_neg (by rw [hd0]; simp), if_pos (room_free.2 fun j hj hd => ?_)]
        · simp [Fs.put]
        · have hj' : j = pb ∨ j = pa := by
            change (if j = pb then true else if j = pa then true else false) = true at hd
            by_cases e1 : j = pb
            · exact .inl e1
            · by_cases e2 : j = pa
              · exact .inr e2
              · simp [e1, e2] at hd
          refine (enc_far bt).2 (Decidable.byContradiction fun hne => ?_)
          have h3 := c.sym hne
          rcases hj' with rfl | rfl
          · exact tie hbb h3 hnb e
          · exact h3 e
      have h2' := (fillN_keep (A := encM (cloF l)) (n := (marksF l).length) (p := []) (s := attS pa pb n) (k := 1) (q := 0) fillS_dt ((marksF l).length - 1)).2
      rw [show 1 + ((marksF l).length - 1) = (marksF l).length by omega] at h2'
      unfold attY
      rw [h2']; exact h10
    · rw [if_pos e]
      have hf0 : fi = 0 := by
        apply Decidable.byContradiction; intro hne
        exact e ((far 0).1 (f3 0 (by omega)))
      rw [hf0]; omega
  · rw [mv pb hbb, mv pa ha, if_pos hnb, if_pos hna, ya, yb]
    split
    · rename_i e; have := same e; omega
    · omega
end Go.Proofs.YtfemldhlanoakaaGreatDoor
/- A number of years between two marks is attained: the program's function. -/
namespace Go.Proofs.YtfemldhlanoakaaGreatDoor
open Go Go.Em Go.Em.Net
set_option maxRecDepth 100000
theorem att_err {l : List Clm} {a b n : Int} {f : Nat} (hf : 1800 ≤ f) (h : aerF l a b n ≠ 0) : pureCall (rc pg f) 6 [clsD l, D.int a, D.int b, D.int n] = some (.ret (.tup [.sl false [], D.int (aerF l a b n)])) := by
  obtain ⟨m, rfl, e⟩ := body (pg := pg) (f := 6) (args := [clsD l, D.int a, D.int b, D.int n]) (show 0 < f by omega) rfl rfl
  rw [e]
  have hcan : D.canonL [clsD l, D.int a, D.int b] = true := by simp [clsD, canonL_map clD cl_canon l]
  have c74 := fun h => call_of (h := h) (pg := pg) (f := 22) rfl hcan (@bet_run l a b m (by omega))
  simp only [clsD] at c74
  by_cases hE : errF l a b = 0
  · obtain ⟨h0, hb, pa, pb, h1, h2, h3, h4, e0⟩ := bet_ok hE
    rw [e0] at c74
    have hc1 := ints_canonL (marksF l)
    have hc2 := rows_canonL (marksF l).length (encM (cloF l))
    have c75 := fun h => call_of (h := h) (pg := pg) (f := 23) rfl (by simp [nD, intsD, rowsD, hc1, hc2]) (far_run (marksF l) (encM (cloF l)) h1 h2 (n := m) (by omega))
    have hbd := enc_bd (clo_bt h0 hb)
    simp only [nD, intsD, rowsD] at c74 c75
    unfold aerF at h ⊢
    rw [if_neg (fun x => x hE), ← h3, ← h4] at h ⊢
    by_cases hfar : encM (cloF l) pa pb = 1000000000
    · have hf' : (encM (cloF l) pa pb == 1000000000) = true := by simp [hfar]
      rw [if_pos hfar] at h ⊢
      simp [-beq_iff_eq, k6, Env.v_ini, clsD, D.cells, D.one, c74, c75, hf']
    · have hf' : (encM (cloF l) pa pb == 1000000000) = false := by simp [hfar]
      rw [if_neg hfar] at h ⊢
      have hr : ¬ (-(encM (cloF l) pb pa) ≤ n ∧ n ≤ encM (cloF l) pa pb) := fun x => h (if_pos x)
      rw [if_neg hr] at h ⊢
      have y1 := fun a => yCs_len (marksF l).length (encM (cloF l) a)
      have g1 := fun h' => yCs_at (y := encM (cloF l) pb) h1 h'
      have g2 := fun h' => yCs_at (y := encM (cloF l) pa) h2 h'
      have i1 : pa + 1 ≤ (marksF l).length := h1
      have i2 : pb + 1 ≤ (marksF l).length := h2
      have w1 : IntKind.i64.wrap (-(encM (cloF l) pb pa)) = -(encM (cloF l) pb pa) := by have := hbd pb pa; exact wrap_i64 (by omega) (by omega)
      have s53 : pg.sh 24 = false := rfl
      have c53 : pureCall (rc pg m) 24 [D.int n, D.int (-(encM (cloF l) pb pa)), D.int (encM (cloF l) pa pb)] = some (.ret (D.bool false)) := by
        obtain ⟨m', rfl, e'⟩ := body (pg := pg) (f := 24) (args := [D.int n, D.int (-(encM (cloF l) pb pa)), D.int (encM (cloF l) pa pb)]) (show 0 < m by omega) rfl rfl
        rw [e']
        by_cases u : -(encM (cloF l) pb pa) ≤ n
        · have u2 : ¬ n ≤ encM (cloF l) pa pb := fun x => hr ⟨u, x⟩
          simp [k24, Env.v_ini, u, u2]
        · simp [k24, Env.v_ini, u]
      simp [-beq_iff_eq, -beq_eq_false_iff_ne, k6, Env.v_ini, clsD, D.cells, D.one, c74, c75, hf', h1, h2, y1, g1, g2, i1, i2, w1, dcore_f, s53, c53]
  · have e0 := bet_err hE
    have q : (errF l a b != 0) = true := by simpa using hE
    have ea : aerF l a b n = errF l a b := by unfold aerF; rw [if_pos hE]
    rw [e0] at c74
    simp only [bet0] at c74
    rw [ea]
    simp [-bne_iff_ne, k6, Env.v_ini, clsD, D.cells, D.one, c74, q]
end Go.Proofs.YtfemldhlanoakaaGreatDoor
/- A number of years between two marks is attained: the program's function, where there is an answer. -/
namespace Go.Proofs.YtfemldhlanoakaaGreatDoor
open Go Go.Em Go.Em.Net
set_option maxRecDepth 100000
def k35t : Cd :=
  .seq (.region [⟨none, (some 59), .inl (.fa (.s 10) 0)⟩,
    ⟨none, (some 60), .inl (.ld true 2 (.s 59))⟩,
    ⟨none, (some 61), .inr (.fn 25 [(.s 60)])⟩,
    ⟨none, (some 12), .inl (.alloc 60 [(.slice none 0 0), (.slice none 0 0), (.slice none 0 0), (.slice none 0 0)])⟩,
    ⟨none, none, .inl (.st 4 (.s 12) (.s 61))⟩])
  (.seq (.region [⟨none, (some 62), .inl (.ld true 4 (.s 12))⟩,
    ⟨none, (some 63), .inl (.fa (.s 10) 2)⟩,
    ⟨none, (some 64), .inl (.ld false 1 (.s 63))⟩,
    ⟨none, (some 65), .inr (.fn 26 [(.s 62), (.s 64), (.c (.int .i64 0))])⟩])
  (.seq (.region [⟨none, (some 66), .inl (.ld true 4 (.s 12))⟩,
    ⟨none, (some 67), .inl (.fa (.s 10) 3)⟩,
    ⟨none, (some 68), .inl (.ld false 1 (.s 67))⟩,
    ⟨none, (some 69), .inl (.mv (.s 3))⟩,
    ⟨none, (some 70), .inr (.fn 26 [(.s 66), (.s 68), (.s 69)])⟩])
  (.seq (.region [⟨none, (some 71), .inl (.ld true 4 (.s 12))⟩,
    ⟨none, (some 72), .inr (.fn 27 [(.s 71), (.c (.slice none 0 0))])⟩,
    ⟨none, (some 13), .inl (.mv (.s 72))⟩])
  (.seq (.region [⟨none, (some 73), .inl (.ld true 4 (.s 12))⟩,
    ⟨none, (some 74), .inl (.fa (.s 10) 2)⟩,
    ⟨none, (some 75), .inl (.ld false 1 (.s 74))⟩,
    ⟨none, (some 76), .inl (.mv (.s 13))⟩,
    ⟨none, (some 77), .inr (.fn 28 [(.s 73), (.s 75), (.s 76)])⟩])
  (.seq (.region [⟨none, (some 78), .inl (.mv (.s 13))⟩,
    ⟨none, (some 8), .inl (.mv (.s 78))⟩,
    ⟨none, (some 9), .inl (.mv (.c (.int .i64 0)))⟩])
  (.ret))))))
theorem k35_eq : k6 = .seq (.region [⟨none, (some 8), .inl (.mv (.c (.slice none 0 0)))⟩,
    ⟨none, (some 9), .inl (.mv (.c (.int .i64 0)))⟩])
  (.seq (.region [⟨none, (some 15), .inl (.mv (.s 0))⟩,
    ⟨none, (some 16), .inl (.mv (.s 1))⟩,
    ⟨none, (some 17), .inl (.mv (.s 2))⟩,
    ⟨none, (some 18), .inr (.fn 22 [(.s 15), (.s 16), (.s 17)])⟩,
    ⟨none, (some 14), .inl (.mv (.s 18))⟩,
    ⟨none, (some 19), .inl (.ex (.s 14) 0)⟩,
    ⟨none, (some 20), .inl (.ex (.s 14) 1)⟩,
    ⟨none, (some 10), .inl (.alloc 53 [(.slice none 0 0), (.slice none 0 0), (.int .i64 0), (.int .i64 0)])⟩,
    ⟨none, none, .inl (.st 4 (.s 10) (.s 19))⟩,
    ⟨none, (some 11), .inl (.mv (.s 20))⟩])
  (.seq (.seq (.region [⟨none, (some 21), .inl (.mv (.s 11))⟩,
    ⟨none, (some 22), .inl (.bin .neq (.s 21) (.c (.int .i64 0)))⟩])
  (.cond (.s 22) (.seq (.region [⟨none, (some 23), .inl (.mv (.s 11))⟩,
     ⟨none, (some 8), .inl (.mv (.c (.slice none 0 0)))⟩,
     ⟨none, (some 9), .inl (.mv (.s 23))⟩])
   (.ret))
  (.skip)))
  (.seq (.seq (.region [⟨none, (some 24), .inl (.fa (.s 10) 0)⟩,
    ⟨none, (some 25), .inl (.ld true 2 (.s 24))⟩,
    ⟨none, (some 26), .inl (.fa (.s 10) 2)⟩,
    ⟨none, (some 27), .inl (.ld false 1 (.s 26))⟩,
    ⟨none, (some 28), .inl (.fa (.s 10) 3)⟩,
    ⟨none, (some 29), .inl (.ld false 1 (.s 28))⟩,
    ⟨none, (some 30), .inr (.fn 23 [(.s 25), (.s 27), (.s 29)])⟩])
  (.cond (.s 30) (.seq (.region [⟨none, (some 8), .inl (.mv (.c (.slice none 0 0)))⟩,
     ⟨none, (some 9), .inl (.mv (.c (.int .i64 5)))⟩])
   (.ret))
  (.skip)))
  (.seq (.seq (.draw [⟨⟨none, (some 31), .inl (.mv (.s 3))⟩, (some []), [], 0, false⟩,
    ⟨⟨none, (some 32), .inl (.fa (.s 10) 0)⟩, (some []), [], 0, false⟩,
    ⟨⟨none, (some 33), .inl (.fa (.s 32) 0)⟩, (some []), [], 2, false⟩,
    ⟨⟨none, (some 34), .inl (.fa (.s 33) 1)⟩, (some []), [], 6, false⟩,
    ⟨⟨none, (some 35), .inl (.ld false 1 (.s 34))⟩, (some []), [], 14, false⟩,
    ⟨⟨none, (some 36), .inl (.fa (.s 10) 3)⟩, (some []), [], 0, false⟩,
    ⟨⟨none, (some 37), .inl (.ld false 1 (.s 36))⟩, (some []), [], 32, false⟩,
    ⟨⟨none, (some 38), .inl (.ias 1 (.s 35) (.s 37))⟩, (some []), [], 126, false⟩,
    ⟨⟨none, (some 39), .inl (.ld false 1 (.s 38))⟩, (some []), [], 254, false⟩,
    ⟨⟨none, (some 40), .inl (.fa (.s 10) 2)⟩, (some []), [], 0, false⟩,
    ⟨⟨none, (some 41), .inl (.ld false 1 (.s 40))⟩, (some []), [], 512, false⟩,
    ⟨⟨none, (some 42), .inl (.ias 1 (.s 39) (.s 41))⟩, (some []), [], 2046, false⟩,
    ⟨⟨none, (some 43), .inl (.ld false 1 (.s 42))⟩, (some []), [], 4094, false⟩,
    ⟨⟨none, (some 44), .inl (.neg (.s 43))⟩, (some []), [], 8190, false⟩,
    ⟨⟨none, (some 45), .inl (.fa (.s 10) 0)⟩, (some []), [], 0, false⟩,
    ⟨⟨none, (some 46), .inl (.fa (.s 45) 0)⟩, (some []), [], 16384, false⟩,
    ⟨⟨none, (some 47), .inl (.fa (.s 46) 1)⟩, (some []), [], 49152, false⟩,
    ⟨⟨none, (some 48), .inl (.ld false 1 (.s 47))⟩, (some []), [], 114688, false⟩,
    ⟨⟨none, (some 49), .inl (.fa (.s 10) 2)⟩, (some []), [], 0, false⟩,
    ⟨⟨none, (some 50), .inl (.ld false 1 (.s 49))⟩, (some []), [], 262144, false⟩,
    ⟨⟨none, (some 51), .inl (.ias 1 (.s 48) (.s 50))⟩, (some []), [], 1032192, false⟩,
    ⟨⟨none, (some 52), .inl (.ld false 1 (.s 51))⟩, (some []), [], 2080768, false⟩,
    ⟨⟨none, (some 53), .inl (.fa (.s 10) 3)⟩, (some []), [], 0, false⟩,
    ⟨⟨none, (some 54), .inl (.ld false 1 (.s 53))⟩, (some []), [], 4194304, false⟩,
    ⟨⟨none, (some 55), .inl (.ias 1 (.s 52) (.s 54))⟩, (some []), [], 16760832, false⟩,
    ⟨⟨none, (some 56), .inl (.ld false 1 (.s 55))⟩, (some []), [], 33538048, false⟩,
    ⟨⟨none, (some 57), .inr (.fn 24 [(.s 31), (.s 44), (.s 56)])⟩, (some []), [], 67108863, false⟩,
    ⟨⟨none, (some 58), .inl (.not (.s 57))⟩, (some []), [], 134217727, false⟩])
  (.cond (.s 58) (.seq (.region [⟨none, (some 8), .inl (.mv (.c (.slice none 0 0)))⟩,
     ⟨none, (some 9), .inl (.mv (.c (.int .i64 23)))⟩])
   (.ret))
  (.skip)))
  k35t)))) := rfl
set_option maxHeartbeats 8000000 in
theorem att_tail {l : List Clm} (h0 : chkF l = 0) (hbad : badF l = false) {pa pb : Nat} (ha : pa < (marksF l).length) (hbb : pb < (marksF l).length) {n : Int} (hfar : encM (cloF l) pa pb ≠ 1000000000) (h1 : -(encM (cloF l) pb pa) ≤ n) (h2 : n ≤ encM (cloF l) pa pb) (x : Env 79) (h : Heap) (b10 : Nat) (v3 : x.v 3 = D.int n) (v10 : x.v 10 = .ptr b10 0) (g10 : h.get b10 = some (.cells 53 [intsD (marksF l), rowsD (marksF l).length (encM (cloF l)), D.int pa, D.int pb])) (n10 : b10 < h.next) (hf : h.Fr) {m : Nat} (hm : 1000 ≤ m) :
    ∃ fi, fi < (marksF l).length ∧ encM (cloF l) pa fi ≠ 1000000000 ∧ (∀ j, j < fi → encM (cloF l) pa j = 1000000000) ∧ endK (rc pg m) [(.tmp 8, false, 0), (.tmp 9, false, 0)] (k35t.ev ⟨pg, 79, none⟩ (rc pg m) ⟨x.l, h, []⟩) = some (.ret (.tup [dtsD (lsF (marksF l) (movY (encM (cloF l)) pa (attY l pa pb n fi) (attY l pa pb n) (marksF l).length) (marksF l).length), D.int 0])) := by
  have hfr : ∀ j, h.raw (h.next + j) = none := fun j => hf _ (by omega)
  have c := clo_clsd h0 hbad
  have bt := clo_small h0 hbad
  obtain ⟨F, hn1, hn2⟩ := att_ok h0 hbad ha hbb hfar h1 h2
  have F2 := fillH_of h0 hbad (p := []) (by simp) (s0 := attS pa pb n) rfl F (fun j => by
    show -1000000000 ≤ (if j = pb then n else if j = pa then 0 else 0) ∧ (if j = pb then n else if j = pa then 0 else 0) ≤ 1000000000
    split
    · omega
    · split <;> omega)
  have s71 : pg.sh 25 = true := rfl
  have s72 : pg.sh 27 = true := rfl
  have s76 : pg.sh 26 = true := rfl
  have s77 : pg.sh 28 = true := rfl
  obtain ⟨yb, db, H1, d1, d2, d3, d4, d5, d6⟩ := nwd_sh (marksF l) (encM (cloF l)) (chk_ok h0).2.2 (hf.bump 79) (f := m) (by omega)
  have c71 := call_sh (pg := pg) s71 d1
  have n10' : b10 < (h.bump 79).next := by simp; omega
  have hH1 : ∀ q, q < h.next + 79 → H1.raw q = h.raw q := fun q hq => by have := d6.2 q (by simpa using hq); simpa using this
  have hn1' : h.next + 79 ≤ H1.next := by have := d6.1; simpa using this
  have y79 : h.next + 79 ≤ yb := by simpa using d4
  have b79 : h.next + 79 ≤ db := by simpa using d5
  have r12 : H1.raw (h.next + 12) = none := by rw [hH1 _ (by omega)]; exact hfr 12
  obtain ⟨H2, hH2⟩ : ∃ H2, H2 = ((H1.set (h.next + 12) (some (.cells 60 [D.val (.slice none 0 0), D.val (.slice none 0 0), D.val (.slice none 0 0), D.val (.slice none 0 0)]))).set (h.next + 12) (some (.cells 60 [intsD (marksF l), rowsD (marksF l).length (encM (cloF l)), .slr yb 0 (marksF l).length 1 (some (marksF l).length), .slr db 0 (marksF l).length 1 (some (marksF l).length)]))).bump 79 := ⟨_, rfl⟩
  have hH2n : H2.next = H1.next + 79 := by rw [hH2]; simp
  have hH2r : ∀ q, q ≠ h.next + 12 → H2.raw q = H1.raw q := fun q hq => by rw [hH2]; simp [hq]
  have hH2f : H2.Fr := by
    rw [hH2]
    repeat' first | exact d3 | apply Heap.Fr.bump | apply Heap.Fr.set
    all_goals first | omega | (simp <;> omega)
  have hH2b : H2.get (h.next + 12) = some (.cells 60 [intsD (marksF l), rowsD (marksF l).length (encM (cloF l)), .slr yb 0 (marksF l).length 1 (some (marksF l).length), .slr db 0 (marksF l).length 1 (some (marksF l).length)]) := by rw [hH2]; simp
  have hH2q : ∀ q, q ≠ h.next + 12 → H2.get q = H1.get q := fun q hq => by unfold Heap.get; rw [hH2r q hq]
  have hH2d : Dh (marksF l).length (fun _ => 0) (fun _ => false) yb db H2 := ⟨by rw [hH2q yb (by omega)]; exact d2.hy, by rw [hH2q db (by omega)]; exact d2.hd, by have := d2.yl; omega, by have := d2.dl; omega, d2.ne⟩
  have hH2g : H2.get b10 = h.get b10 := by unfold Heap.get; rw [hH2r b10 (by omega), hH1 b10 (by omega)]
  obtain ⟨H3, e3, D3, F3, N3, U3⟩ := set_sh' (marksF l) (encM (cloF l)) hH2d hH2f ha 0 (f := m) (by omega)
  have c76 := call_sh (pg := pg) s76 e3
  have k3 : ∀ q, q < h.next + 79 → H3.get q = H2.get q := fun q hq => by unfold Heap.get; rw [U3 q (by omega) (by omega) (by omega)]
  have D3' := D3.keep (h' := H3.bump 79) (by simp) (by simp)
  obtain ⟨H4, e4, D4, F4, N4, U4⟩ := set_sh' (marksF l) (encM (cloF l)) D3' (F3.bump 79) hbb n (f := m) (by omega)
  have c76b := call_sh (pg := pg) s76 e4
  have k4 : ∀ q, q < h.next + 79 → H4.get q = H2.get q := fun q hq => by
    rw [← k3 q hq]
    unfold Heap.get
    rw [U4 q (by simp; omega) (by omega) (by omega)]
    simp
  have D4' := D4.keep (h' := H4.bump 79) (by simp) (by simp)
  obtain ⟨lb, H5, e5, L5, D5, l5, l5', F5, N5, U5⟩ := fill_sh (marksF l) (encM (cloF l)) [] (attS pa pb n) F2 rfl (pv := .val (.slice none 0 0)) (.inr ⟨rfl, rfl⟩) D4' (F4.bump 79) (f := m) (by omega)
  have c72 := call_sh (pg := pg) s72 e5
  have N4' : h.next + 79 ≤ H4.next := by simp at N4; omega
  have k5 : ∀ q, q < h.next + 79 → H5.get q = H2.get q := fun q hq => by
    rw [← k4 q hq]
    unfold Heap.get
    rw [U5 q (by simp; omega) (by omega) (by omega)]
    simp
  have L5' : (H5.bump 79).get lb = some (.cells 80 ((lsF (marksF l) (attY l pa pb n) (marksF l).length).flatMap dtC)) := by unfold attY; simpa using L5
  have hAa : encM (cloF l) pa pa ≠ 1000000000 := by rw [enc_some (c.diag _ ha)]; omega
  obtain ⟨fi, H6, f1, f2, f3, e6, L6, l6, F6, U6⟩ := beg_sh (marksF l) (chk_ok h0).2.2 (encM (cloF l)) ha hAa (attY l pa pb n) (fun j hj => by
    have := att_bd h0 hbad ha hbb hfar h1 h2 j hj
    omega) L5' (yb := yb) (db := db) (by simp; omega) (F5.bump 79) (f := m) (by omega)
  have c77 := call_sh (pg := pg) s77 e6
  refine ⟨fi, f1, f2, f3, ?_⟩
  have hz := dts_frz (lsF (marksF l) (movY (encM (cloF l)) pa (attY l pa pb n fi) (attY l pa pb n) (marksF l).length) (marksF l).length) (n := (marksF l).length) (lb := lb) (h := H6.bump 79) (by rw [lsF_len]) (by simpa using L6) 20
  have q2 := hH2b
  have q3 := k3 (h.next + 12) (by omega)
  have q4 := k4 (h.next + 12) (by omega)
  have q5 := k5 (h.next + 12) (by omega)
  have p3 := k3 b10 (by omega)
  have p4 := k4 b10 (by omega)
  have p5 := k5 b10 (by omega)
  rw [hH2b] at q3 q4 q5
  rw [hH2g, g10] at p3 p4 p5
  rw [g10] at hH2g
  simp only [nD, intsD, rowsD, dtS, frz_slr] at c71 c76 c76b c72 c77 g10 hz q2 q3 q4 q5 p3 p4 p5 hH2g hH2
  simp [k35t, v3, v10, g10, D.cells, D.one, c71, r12, ← hH2, c76, c76b, c72, c77, q2, q3, q4, q5, p3, p4, p5, hH2g]
  have hz' : frzS (H6.bump 79) 22 lb 0 (marksF l).length 2 (H6.get lb) = some (dtsD (lsF (marksF l) (movY (encM (cloF l)) pa (attY l pa pb n fi) (attY l pa pb n) (marksF l).length) (marksF l).length), [lb]) := by simpa using hz
  rw [hz']
  exact ⟨_, rfl⟩
end Go.Proofs.YtfemldhlanoakaaGreatDoor
/- Each number within the bounds is attained: the law, by the evaluator. -/
namespace Go.Proofs.YtfemldhlanoakaaGreatDoor
open Go Go.Em Go.Em.Net
set_option maxRecDepth 100000
theorem attain_ok {l : List Clm} {a b n : Int} {f : Nat} (hf : 1800 ≤ f) (h : aerF l a b n = 0) : ∃ L : List Dt, pureCall (rc pg f) 6 [clsD l, D.int a, D.int b, D.int n] = some (.ret (.tup [dtsD L, D.int 0])) ∧ keepF l L = 0 ∧ yOf L b - yOf L a = n ∧ L.length ≤ 64 ∧ -1000000000 ≤ yOf L a ∧ yOf L a ≤ 1000000000 ∧ -1000000000 ≤ yOf L b ∧ yOf L b ≤ 1000000000 := by
  obtain ⟨m, rfl, e⟩ := body (pg := pg) (f := 6) (args := [clsD l, D.int a, D.int b, D.int n]) (show 0 < f by omega) rfl rfl
  rw [e, k35_eq]
  have hcan : D.canonL [clsD l, D.int a, D.int b] = true := by simp [clsD, canonL_map clD cl_canon l]
  have c74 := fun h => call_of (h := h) (pg := pg) (f := 22) rfl hcan (@bet_run l a b m (by omega))
  have hE : errF l a b = 0 := Decidable.byContradiction fun x => by unfold aerF at h; rw [if_pos x] at h; exact x h
  have hma : a ∈ marksF l ∧ b ∈ marksF l := by
    unfold errF at hE
    split at hE
    · rename_i x; exact absurd hE x
    · split at hE
      · cases hE
      · rename_i x
        constructor
        · exact Decidable.byContradiction fun hn => x (.inl (by unfold posF; rw [if_neg hn]))
        · exact Decidable.byContradiction fun hn => x (.inr (by unfold posF; rw [if_neg hn]))
  obtain ⟨h0, hb, pa, pb, h1, h2, h3, h4, e0⟩ := bet_ok hE
  rw [e0] at c74
  have hc1 := ints_canonL (marksF l)
  have hc2 := rows_canonL (marksF l).length (encM (cloF l))
  have c75 := fun h => call_of (h := h) (pg := pg) (f := 23) rfl (by simp [nD, intsD, rowsD, hc1, hc2]) (far_run (marksF l) (encM (cloF l)) h1 h2 (n := m) (by omega))
  have hbd := enc_bd (clo_bt h0 hb)
  unfold aerF at h
  rw [if_neg (fun x => x hE), ← h3, ← h4] at h
  have hfar : encM (cloF l) pa pb ≠ 1000000000 := fun x => by rw [if_pos x] at h; cases h
  rw [if_neg hfar] at h
  have hr : -(encM (cloF l) pb pa) ≤ n ∧ n ≤ encM (cloF l) pa pb := Decidable.byContradiction fun x => by rw [if_neg x] at h; cases h
  have hf' : (encM (cloF l) pa pb == 1000000000) = false := by simp [hfar]
  have y1 := fun a => yCs_len (marksF l).length (encM (cloF l) a)
  have g1 := fun h' => yCs_at (y := encM (cloF l) pb) h1 h'
  have g2 := fun h' => yCs_at (y := encM (cloF l) pa) h2 h'
  have i1 : pa + 1 ≤ (marksF l).length := h1
  have i2 : pb + 1 ≤ (marksF l).length := h2
  have w1 : IntKind.i64.wrap (-(encM (cloF l) pb pa)) = -(encM (cloF l) pb pa) := by have := hbd pb pa; exact wrap_i64 (by omega) (by omega)
  have s53 : pg.sh 24 = false := rfl
  have c53 : pureCall (rc pg m) 24 [D.int n, D.int (-(encM (cloF l) pb pa)), D.int (encM (cloF l) pa pb)] = some (.ret (D.bool true)) := by
    obtain ⟨m', rfl, e'⟩ := body (pg := pg) (f := 24) (args := [D.int n, D.int (-(encM (cloF l) pb pa)), D.int (encM (cloF l) pa pb)]) (show 0 < m by omega) rfl rfl
    rw [e']
    simp [k24, Env.v_ini, hr.1, hr.2]
  simp only [clsD, nD, intsD, rowsD] at c74 c75
  obtain ⟨H, hH⟩ : ∃ H : Heap, H = ((((((Heap.empty.bump 79).bump 79).set 89 (some (.cells 53 [D.val (.slice none 0 0), D.val (.slice none 0 0), D.int 0, D.int 0]))).set 89 (some (.cells 53 [intsD (marksF l), rowsD (marksF l).length (encM (cloF l)), D.int pa, D.int pb]))).bump 79).bump 79).bump 79 := ⟨_, rfl⟩
  have hHf : H.Fr := by
    rw [hH]
    repeat' first | exact Heap.Fr.empty | apply Heap.Fr.bump | apply Heap.Fr.set
    all_goals simp
  have tail : ∀ (x : Env 79), x.v 3 = D.int n → x.v 10 = .ptr 89 0 → ∃ L : List Dt, endK (rc pg m) [(.tmp 8, false, 0), (.tmp 9, false, 0)] (k35t.ev ⟨pg, 79, none⟩ (rc pg m) ⟨x.l, H, []⟩) = some (.ret (.tup [dtsD L, D.int 0])) ∧ keepF l L = 0 ∧ yOf L b - yOf L a = n ∧ L.length ≤ 64 ∧ -1000000000 ≤ yOf L a ∧ yOf L a ≤ 1000000000 ∧ -1000000000 ≤ yOf L b ∧ yOf L b ≤ 1000000000 := by
    intro x v3 v10
    obtain ⟨fi, f1, f2, f3, ee⟩ := att_tail h0 hb h1 h2 hfar hr.1 hr.2 x H 89 v3 v10 (by rw [hH]; simp) (by rw [hH]; simp) hHf (m := m) (by omega)
    obtain ⟨q1, q2, q3⟩ := att_keep h0 hb h1 h2 hfar hr.1 hr.2 f1 f2 f3
    have ea := yOf_ls (marksF l) (movY (encM (cloF l)) pa (attY l pa pb n fi) (attY l pa pb n) (marksF l).length) hma.1
    have eb := yOf_ls (marksF l) (movY (encM (cloF l)) pa (attY l pa pb n fi) (attY l pa pb n) (marksF l).length) hma.2
    rw [← h3] at ea
    rw [← h4] at eb
    have mvb : ∀ j, j < (marksF l).length → -400000000 ≤ movY (encM (cloF l)) pa (attY l pa pb n fi) (attY l pa pb n) (marksF l).length j ∧ movY (encM (cloF l)) pa (attY l pa pb n fi) (attY l pa pb n) (marksF l).length j ≤ 400000000 := fun j hj => by
      have := q3 j hj
      have := q3 fi f1
      unfold movY
      split <;> omega
    have b1 := mvb pa h1
    have b2 := mvb pb h2
    refine ⟨_, ee, q1, by rw [ea, eb]; exact q2, by rw [lsF_len]; exact (chk_ok h0).2.2, by rw [ea]; omega, by rw [ea]; omega, by rw [eb]; omega, by rw [eb]; omega⟩
  simp only [intsD, rowsD] at hH
  simp [-beq_iff_eq, -beq_eq_false_iff_ne, Env.v_ini, clsD, D.cells, D.one, c74, c75, hf', h1, h2, y1, g1, g2, i1, i2, w1, dcore_f, s53, c53]
  rw [← hH]
  exact tail _ (by simp [Env.v_ini]) (by simp)
end Go.Proofs.YtfemldhlanoakaaGreatDoor
