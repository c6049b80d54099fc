/- The years that dated marks leave to a mark, by the program; the number that is picked. -/
import Derived.Test.YtgbkdjlekfjkfaaGreatDoorPl
import Derived.Test.YtgbkdjlekfjkfaaGreatDoorPl
import Derived.Test.YtgbkdjlekfjkfaaGreatDoorPl
namespace Go.Proofs.YtgbkdjlekfjkfaaGreatDoor
open Go Go.Em Go.Em.Net
set_option maxRecDepth 100000
def bCs (n : Nat) (dt : Nat → Bool) : List D := (List.range n).map fun i => D.bool (dt i)
theorem bCs_len (n : Nat) (dt : Nat → Bool) : (bCs n dt).length = n := by simp [bCs]
theorem bCs_at {n : Nat} {dt : Nat → Bool} {j : Nat} (hj : j < n) (h : j < (bCs n dt).length) : (bCs n dt)[j]'h = D.bool (dt j) := by simp [bCs]
theorem bCs_canon (n : Nat) (dt : Nat → Bool) : D.canonL (bCs n dt) = true := canonL_map _ (fun _ => rfl) _
theorem bCs_set {n : Nat} {dt : Nat → Bool} {j : Nat} (b : Bool) : (bCs n dt).set j (D.bool b) = bCs n (fun v => if v = j then b else dt v) := by
  apply List.ext_getElem?
  intro i
  unfold bCs
  rw [List.getElem?_set]
  by_cases hi : i < n
  · by_cases hij : j = i
    · subst hij; simp [hi]
    · have : ¬ i = j := fun e => hij e.symm
      simp [hij, hi, this]
  · by_cases hij : j = i
    · subst hij; simp [hi]
    · simp [hij, hi]
def dtT (M : List Int) (A : Nat → Nat → Int) (y : Nat → Int) (dt : Nat → Bool) : D := .agg [intsD M, rowsD M.length A, .sl false (yCs M.length y), .sl false (bCs M.length dt)]
def RmI (M : List Int) (A : Nat → Nat → Int) (y : Nat → Int) (dt : Nat → Bool) (i : Nat) (k : Nat) (s : St) : Prop := ∃ (x : Env 69) (h : Heap) (j : Nat), s = ⟨x.l, h, []⟩ ∧ j + k = M.length ∧ x.v 1 = D.int i ∧ x.v 2 = .ptr 2 0 ∧ x.v 4 = D.int (roomI A dt y i j).1 ∧ x.v 5 = D.int (roomI A dt y i j).2.1 ∧ x.v 6 = D.bool (roomI A dt y i j).2.2 ∧ x.v 12 = D.int M.length ∧ x.v 13 = D.int j ∧ h.get 2 = some (.cells 95 [intsD M, rowsD M.length A, .sl false (yCs M.length y), .sl false (bCs M.length dt)])
set_option maxHeartbeats 8000000 in
theorem room_round (M : List Int) (hl : M.length ≤ 64) (A : Nat → Nat → Int) (hA : ∀ a b, -1000000000000 ≤ A a b ∧ A a b ≤ 1000000000000) (y : Nat → Int) (hy : ∀ j, j < M.length → -1000000000000 ≤ y j ∧ y j ≤ 1000000000000) (dt : Nat → Bool) (i : Nat) (hi : i < M.length) : ∀ n, 1 ≤ n → ∀ k s, RmI M A y dt i k s → Res (k113l0.ev ⟨pg, 69, none⟩ (rc pg n) s) (Rnd (RmI M A y dt i) (fun x s => x = .exit 0 ∧ RmI M A y dt i 0 s) k) := by
  rintro n hn k s ⟨x, h, j, rfl, hjk, v1, v2, v4, v5, v6, v12, v13, hg⟩
  by_cases hj : j < M.length
  · have w1 : IntKind.i64.wrap ((j : Int) + 1) = (j : Int) + 1 := wrap_i64 (by omega) (by omega)
    have hc1 := ints_canonL M
    have hc2 := rows_canonL M.length A
    have f1 := fun h => call_of (h := h) (pg := pg) (f := 61) rfl (by simp [nD, intsD, rowsD, hc1, hc2]) (far_run M A hi hj hn)
    have y1 := fun a => yCs_len M.length a
    have b1 := bCs_len M.length dt
    have g0 := fun h' => yCs_at (y := y) hj h'
    have g1 := fun h' => yCs_at (y := A i) hj h'
    have g2 := fun h' => yCs_at (y := A j) hi h'
    have g3 := fun h' => bCs_at (dt := dt) hj h'
    have i1 : i + 1 ≤ M.length := hi
    have i2 : j + 1 ≤ M.length := hj
    have q1 := hA i j
    have q2 := hA j i
    have q3 := hy j hj
    have w2 : IntKind.i64.wrap (y j - A i j) = y j - A i j := wrap_i64 (by omega) (by omega)
    have w3 : IntKind.i64.wrap (y j + A j i) = y j + A j i := wrap_i64 (by omega) (by omega)
    simp only [nD, intsD, rowsD] at f1 hg
    cases hd : dt j with
    | false =>
      have e0 : roomI A dt y i (j + 1) = roomI A dt y i j := by rw [roomI, if_neg (by simp [hd])]
      simp [-beq_iff_eq, k113l0, v1, v2, v4, v5, v6, v12, v13, hi, hj, D.cells, D.one, hg, y1, b1, g3, i2, hd, w1]
      exact ⟨k - 1, by omega, _, _, j + 1, rfl, by omega, by simp [v1], by simp [v2], by simp [v4, e0], by simp [v5, e0], by simp [v6, e0], by simp [v12], by simp, by simp [hg, intsD, rowsD]⟩
    | true =>
      rw [hd] at g3
      by_cases hf : A i j = 1000000000
      · have hf' : (A i j == 1000000000) = true := by simp [hf]
        have e0 : roomI A dt y i (j + 1) = roomI A dt y i j := by rw [roomI, if_neg (by simp [hf])]
        simp [-beq_iff_eq, k113l0, v1, v2, v4, v5, v6, v12, v13, hi, hj, D.cells, D.one, hg, y1, b1, g3, i2, f1, hf', w1]
        exact ⟨k - 1, by omega, _, _, j + 1, rfl, by omega, by simp [v1], by simp [v2], by simp [v4, e0], by simp [v5, e0], by simp [v6, e0], by simp [v12], by simp, by simp [hg, intsD, rowsD]⟩
      · have hf' : (A i j == 1000000000) = false := by simp [hf]
        have e0 : roomI A dt y i (j + 1) = (max (roomI A dt y i j).1 (y j - A i j), min (roomI A dt y i j).2.1 (y j + A j i), false) := by rw [roomI, if_pos ⟨hd, hf⟩]
        simp [-beq_iff_eq, -beq_eq_false_iff_ne, k113l0, v1, v2, v4, v5, v6, v12, v13, hi, hj, D.cells, D.one, hg, y1, b1, g0, g1, g2, g3, i1, i2, f1, hf', w1, w2, w3]
        exact ⟨k - 1, by omega, _, _, j + 1, rfl, by omega, by simp [v1], by simp [v2], by simp [e0], by simp [e0], by simp [e0], by simp [v12], by simp, by simp [hg, intsD, rowsD]⟩
  · simp [k113l0, v12, v13, hj]
    exact ⟨_, _, j, rfl, by omega, by simp [v1], by simp [v2], by simp [v4], by simp [v5], by simp [v6], by simp [v12], by simp [v13], by simp [hg]⟩
theorem room_run (M : List Int) (hl : M.length ≤ 64) (A : Nat → Nat → Int) (hA : ∀ a b, -1000000000000 ≤ A a b ∧ A a b ≤ 1000000000000) (y : Nat → Int) (hy : ∀ j, j < M.length → -1000000000000 ≤ y j ∧ y j ≤ 1000000000000) (dt : Nat → Bool) (i : Nat) (hi : i < M.length) {n : Nat} (hn : 100 ≤ n) :
    pureCall (rc pg n) 113 [dtT M A y dt, D.int i] = some (.ret (.tup [D.int (roomI A dt y i M.length).1, D.int (roomI A dt y i M.length).2.1, D.bool (roomI A dt y i M.length).2.2])) := by
  obtain ⟨m, rfl, e⟩ := body (pg := pg) (f := 113) (args := [dtT M A y dt, D.int i]) (show 0 < n by omega) rfl rfl
  rw [e]
  simp [k113, Env.v_ini, dtT, intsD, rowsD, D.cells, D.one, ev_loop]
  refine Res.endsAfter (lp_rule 1 (RmI M A y dt i) _ (room_round M hl A hA y hy dt i hi) M.length m _ (by omega) ⟨_, _, 0, rfl, by omega, by simp [Env.v_ini], by simp, by simp [roomI], by simp [roomI], by simp [roomI], by simp, by simp, by simp [intsD, rowsD]⟩) ?_
  rintro x s ⟨rfl, x, h, j, rfl, hj, v1, v2, v4, v5, v6, _⟩
  have hjl : j = M.length := by omega
  subst hjl
  simp [v4, v5, v6]
theorem pick_run (p : List Int) (hp : p.length ≤ 4611686018427387904) (t : Nat) (ht : t ≤ 4611686018427387904) (c : Int) (hc : c ≤ 4611686018427387904) (hc' : -4611686018427387904 ≤ c) {n : Nat} (hn : 1 ≤ n) : pureCall (rc pg n) 114 [intsD p, D.int t, D.int c] = some (.ret (D.int (pickI p t c))) := by
  obtain ⟨m, rfl, e⟩ := body (pg := pg) (f := 114) (args := [intsD p, D.int t, D.int c]) (show 0 < n by omega) rfl rfl
  rw [e]
  by_cases h0 : p = []
  · subst h0
    simp [k114, Env.v_ini, intsD, pickI]
  · have hpl : 0 < p.length := List.length_pos_iff.2 h0
    have hl0 : ((p.length : Int) == 0) = false := by simp; omega
    by_cases h1 : c < 1
    · have e0 : pickI p t c = 0 := by unfold pickI; rw [if_pos (.inr h1)]
      simp [-beq_eq_false_iff_ne, k114, Env.v_ini, intsD, hl0, h1, e0]
    · have hq : t % p.length < p.length := Nat.mod_lt _ hpl
      obtain ⟨q, hqd⟩ : ∃ q, q = t % p.length := ⟨_, rfl⟩
      rw [← hqd] at hq
      obtain ⟨v, hv⟩ : ∃ v, p[q] = v := ⟨_, rfl⟩
      have e0 : pickI p t c = v % c := by
        unfold pickI
        rw [if_neg (by simp [h0, h1]), ← hqd, List.getD_eq_getElem?_getD, List.getElem?_eq_getElem hq, hv]; rfl
      have b1 := bin_rem (k := .i64) (a := (t : Int)) (b := (p.length : Int)) (by omega)
      have e1 : (t : Int).tmod (p.length : Int) = (q : Int) := by rw [Int.tmod_eq_emod_of_nonneg (by omega), hqd]; omega
      rw [e1] at b1
      have b2 := bin_rem (k := .i64) (a := v) (b := c) (by omega)
      have h2 := Int.tmod_lt_of_pos v (show 0 < c by omega)
      have h3 : -c < v.tmod c := by have := Int.lt_tmod_of_pos v (show 0 < c by omega); omega
      have h4 : v.tmod c = v - c * v.tdiv c := by have := Int.tmod_add_mul_tdiv v c; omega
      have h5 : v % c = v.tmod c % c := by
        rw [h4, Int.sub_emod, Int.mul_emod_right, Int.sub_zero, Int.emod_emod_of_dvd _ (Int.dvd_refl c)]
      obtain ⟨r, hr⟩ : ∃ r, r = v.tmod c := ⟨_, rfl⟩
      rw [← hr] at b2 h2 h3 h5
      by_cases h6 : r < 0
      · have w1 : IntKind.i64.wrap (r + c) = r + c := wrap_i64 (by omega) (by omega)
        have e2 : v % c = r + c := by
          rw [h5, ← Int.add_emod_right, Int.emod_eq_of_lt (by omega) (by omega)]
        simp [-beq_eq_false_iff_ne, k114, Env.v_ini, intsD, hl0, h1, e0, b1, hq, hv, b2, h6, w1, e2, D.cells]
      · have e2 : v % c = r := by rw [h5, Int.emod_eq_of_lt (by omega) (by omega)]
        simp [-beq_eq_false_iff_ne, k114, Env.v_ini, intsD, hl0, h1, e0, b1, hq, hv, b2, h6, e2, D.cells]
end Go.Proofs.YtgbkdjlekfjkfaaGreatDoor
/- A mark is dated, by the program; years under way in the heap. -/
namespace Go.Proofs.YtgbkdjlekfjkfaaGreatDoor
open Go Go.Em Go.Em.Net
set_option maxRecDepth 100000
structure Dh (n : Nat) (y : Nat → Int) (dt : Nat → Bool) (yb db : Nat) (h : Heap) : Prop where
  hy : h.get yb = some (.cells 3 (yCs n y))
  hd : h.get db = some (.cells 4 (bCs n dt))
  yl : yb < h.next
  dl : db < h.next
  ne : yb ≠ db
def dtS (M : List Int) (A : Nat → Nat → Int) (yb db : Nat) : D := .agg [intsD M, rowsD M.length A, .slr yb 0 M.length 1 (some M.length), .slr db 0 M.length 1 (some M.length)]
theorem Dh.keep {n : Nat} {y : Nat → Int} {dt : Nat → Bool} {yb db : Nat} {h h' : Heap} (d : Dh n y dt yb db h) (hn : h.next ≤ h'.next) (hk : ∀ q, q < h.next → h'.get q = h.get q) : Dh n y dt yb db h' :=
  ⟨by rw [hk _ d.yl]; exact d.hy, by rw [hk _ d.dl]; exact d.hd, Nat.lt_of_lt_of_le d.yl hn, Nat.lt_of_lt_of_le d.dl hn, d.ne⟩
theorem keepB_k {gl : Nat → Option (List D)} {base : Nat} {e : List D} {s k o n : Nat} {ag : Bool} {x : X} (h1 : rd gl e x = .ptr k o) (h2 : atId (e.getD s .junk) = some k) : keepB gl base e [.keep s] (.ld ag n x) = true := by
  have := kids_some (base := base) e s k [] h2
  simp [keepB, h1, this]
set_option maxHeartbeats 8000000 in
theorem set_sh' (M : List Int) (A : Nat → Nat → Int) {y : Nat → Int} {dt : Nat → Bool} {yb db : Nat} {h : Heap} (d : Dh M.length y dt yb db h) (hf : h.Fr) {i : Nat} (hi : i < M.length) (v : Int) {f : Nat} (hfl : 1 ≤ f) :
    ∃ h', (rc pg f).fn 63 [dtS M A yb db, D.int i, D.int v] h = some (.ret (.tup []), h') ∧ Dh M.length (fun q => if q = i then v else y q) (fun q => if q = i then true else dt q) yb db h' ∧ h'.Fr ∧ h.next ≤ h'.next ∧ ∀ q, q < h.next → q ≠ yb → q ≠ db → h'.raw q = h.raw q := by
  obtain ⟨m, rfl, e⟩ := fn_body (pg := pg) (f := 63) (args := [dtS M A yb db, D.int i, D.int v]) (h := h) (show 0 < f by omega) rfl rfl
  rw [e]
  have hfr : ∀ j, h.raw (h.next + j) = none := fun j => hf _ (by omega)
  have hyl := d.yl
  have hdl := d.dl
  have hy := d.hy
  have hd := d.hd
  have hne := d.ne
  have n1 : ∀ j, (yb = h.next + j) = False := fun j => by simp; omega
  have n2 : ∀ j, (db = h.next + j) = False := fun j => by simp; omega
  have m1 : ∀ j, (h.next + j = yb) = False := fun j => by simp; omega
  have m2 : ∀ j, (h.next + j = db) = False := fun j => by simp; omega
  have n3 : (yb = db) = False := by simp [hne]
  have n4 : (db = yb) = False := by simp; omega
  have y1 := yCs_len M.length y
  have b1 := bCs_len M.length dt
  have i1 : i + 1 ≤ M.length := hi
  have st1 : (yCs M.length y).take i ++ D.int v :: (yCs M.length y).drop (i + 1) = yCs M.length (fun q => if q = i then v else y q) := by
    rw [← yCs_set, List.set_eq_take_append_cons_drop, if_pos (by rw [y1]; exact hi)]
  have st2 : (bCs M.length dt).take i ++ D.val (.bool true) :: (bCs M.length dt).drop (i + 1) = bCs M.length (fun q => if q = i then true else dt q) := by
    rw [← bCs_set, List.set_eq_take_append_cons_drop, if_pos (by rw [b1]; exact hi)]
  simp [k63, Env.v_ini, dtS, intsD, rowsD, hfr, D.cells, D.one, Nat.add_assoc, hy, hd, hi, i1, y1, b1, st1, st2, n1, n2, m1, m2, n3, n4, keepB_k (k := h.next + 3) (o := 3), avids_some (k := h.next + 3)]
  refine ⟨⟨by simp [n3], by simp, by simp; omega, by simp; omega, hne⟩, ?_, fun q hq q1 q2 => ?_⟩
  · repeat' first | exact hf | apply Heap.Fr.bump | apply Heap.Fr.set
    all_goals first | omega | (simp <;> omega)
  · rw [if_neg q2, if_neg q1, if_neg (by omega)]
end Go.Proofs.YtgbkdjlekfjkfaaGreatDoor
/- Years of no mark yet, by the program; all marks are dated in turn. -/
namespace Go.Proofs.YtgbkdjlekfjkfaaGreatDoor
open Go Go.Em Go.Em.Net
set_option maxRecDepth 100000
set_option maxHeartbeats 8000000 in
theorem nwd_sh (M : List Int) (A : Nat → Nat → Int) (hl : M.length ≤ 64) {h : Heap} (hf : h.Fr) {f : Nat} (hfl : 1 ≤ f) :
    ∃ yb db h', (rc pg f).fn 53 [nD M A] h = some (.ret (dtS M A yb db), h') ∧ Dh M.length (fun _ => 0) (fun _ => false) yb db h' ∧ h'.Fr ∧ h.next ≤ yb ∧ h.next ≤ db ∧ Un h h' := by
  obtain ⟨m, rfl, e⟩ := fn_body (pg := pg) (f := 53) (args := [nD M A]) (h := h) (show 0 < f by omega) rfl rfl
  rw [e]
  have hfr : ∀ j, h.raw (h.next + j) = none := fun j => hf _ (by omega)
  have hr1 : (8 : Int) * M.length ≤ (room : Int) := by unfold room; omega
  have hr2 : (M.length : Int) ≤ (room : Int) := by unfold room; omega
  have z1 : zerosD [.int .i64 0] 1 M.length = yCs M.length (fun _ => 0) := by
    unfold zerosD yCs
    rw [Nat.mul_one]
    refine List.map_congr_left fun i _ => ?_
    simp [Nat.mod_one]
  have z2 : zerosD [.bool false] 1 M.length = bCs M.length (fun _ => false) := by
    unfold zerosD bCs
    rw [Nat.mul_one]
    refine List.map_congr_left fun i _ => ?_
    simp [Nat.mod_one]
  simp [k53, Env.v_ini, nD, intsD, rowsD, hfr, hr1, hr2, z1, z2, D.cells, D.one, Nat.add_assoc]
  refine ⟨h.next + 23, h.next + 28, _, ⟨rfl, rfl⟩, ⟨by simp, by simp, by simp <;> omega, by simp <;> omega, by omega⟩, ?_, by omega, by omega, by simp <;> omega, fun q hq => ?_⟩
  · repeat' first | exact hf | apply Heap.Fr.bump | apply Heap.Fr.set
    all_goals first | omega | (simp <;> omega)
  · simp [show q ≠ h.next + 1 by omega, show q ≠ h.next + 2 by omega, show q ≠ h.next + 23 by omega, show q ≠ h.next + 28 by omega]
theorem fillS_dt {A : Nat → Nat → Int} {n : Nat} {p : List Int} {s : Fs} {i : Nat} : (fillS A n p s i).dt i = true := by
  unfold fillS
  split
  · assumption
  · split <;> simp [Fs.put]
end Go.Proofs.YtgbkdjlekfjkfaaGreatDoor
/- All marks are dated in turn, by the program: a round. -/
namespace Go.Proofs.YtgbkdjlekfjkfaaGreatDoor
open Go Go.Em Go.Em.Net
set_option maxRecDepth 100000
def dR (o : Option (Out × Heap)) : Option (D × Heap) := match o with
  | some (.ret d, h') => some (d, h')
  | _ => none
@[simp] theorem dR_ret (d : D) (h : Heap) : dR (some (.ret d, h)) = some (d, h) := by unfold dR; rfl
theorem dcore_c {c : Cfg} {R : Rc} {base : Nat} (d : Option Nat) (f : FuncId) (args : List X) (wt : Nat) (e : List D) (h : Heap) :
    dcore c R base ⟨⟨none, d, .inr (.fn f args)⟩, none, [], wt, false⟩ e h = dR (call c.pg R f (args.map (rd c.pg.gl e)) h) := by
  unfold dcore dR
  simp only [G.want, Bool.false_eq_true, if_false, List.isEmpty_nil, Bool.true_or, if_true]
  cases call c.pg R f (args.map (rd c.pg.gl e)) h with
  | none => rfl
  | some q =>
    obtain ⟨o, h'⟩ := q
    cases o <;> rfl
def lsF (M : List Int) (g : Nat → Int) (i : Nat) : List Dt := (List.range i).map fun q => ⟨M.getD q 0, g q⟩
theorem lsF_len (M : List Int) (g : Nat → Int) (i : Nat) : (lsF M g i).length = i := by simp [lsF]
theorem lsF_snoc (M : List Int) (g : Nat → Int) (i : Nat) : lsF M g (i + 1) = lsF M g i ++ [⟨M.getD i 0, g i⟩] := by unfold lsF; rw [List.range_succ, List.map_append]; rfl
theorem ls_cells (l : List Dt) : (l.flatMap dtC).length = l.length * 2 := length_flatMap dtC (fun _ => rfl) l
theorem fillN_t {A : Nat → Nat → Int} {n : Nat} {p : List Int} {s : Fs} : ∀ i, (fillN A n p s i).t ≤ s.t + i
  | 0 => Nat.le_refl _
  | i + 1 => by
    have ih := fillN_t (A := A) (n := n) (p := p) (s := s) i
    unfold fillN fillS
    split
    · omega
    · split
      · simp only [Fs.put]; omega
      · simp only [Fs.put]; omega
structure FillH (M : List Int) (A : Nat → Nat → Int) (p : List Int) (s0 : Fs) : Prop where
  len : M.length ≤ 64
  pl : p.length ≤ 4000000000000000000
  tl : s0.t ≤ 1000
  hA : ∀ a b, -1000000000000 ≤ A a b ∧ A a b ≤ 1000000000000
  hy : ∀ i, i ≤ M.length → ∀ j, j < M.length → -1000000000000 ≤ (fillN A M.length p s0 i).y j ∧ (fillN A M.length p s0 i).y j ≤ 1000000000000
  hr : ∀ i, i < M.length → (fillN A M.length p s0 i).dt i = false → (roomI A (fillN A M.length p s0 i).dt (fillN A M.length p s0 i).y i M.length).2.2 = false → -300000000 ≤ (roomI A (fillN A M.length p s0 i).dt (fillN A M.length p s0 i).y i M.length).1 ∧ (roomI A (fillN A M.length p s0 i).dt (fillN A M.length p s0 i).y i M.length).1 ≤ (roomI A (fillN A M.length p s0 i).dt (fillN A M.length p s0 i).y i M.length).2.1 ∧ (roomI A (fillN A M.length p s0 i).dt (fillN A M.length p s0 i).y i M.length).2.1 ≤ 300000000
structure FlH (h0 : Heap) (M : List Int) (A : Nat → Nat → Int) (L : List Dt) (s : Fs) (yb db bb lb : Nat) (h : Heap) : Prop where
  d : Dh M.length s.y s.dt yb db h
  b : h.get bb = some (.cells 95 [intsD M, rowsD M.length A, .slr yb 0 M.length 1 (some M.length), .slr db 0 M.length 1 (some M.length)])
  l : h.get lb = some (.cells 84 (L.flatMap dtC))
  bl : bb < h.next
  ll : lb < h.next
  ne : bb ≠ lb
  yq : yb < h0.next
  dq : db < h0.next
  b0 : h0.next ≤ bb
  l0 : h0.next ≤ lb
  fr : h.Fr
  nx : h0.next ≤ h.next
  un : ∀ q, q < h0.next → q ≠ yb → q ≠ db → h.raw q = h0.raw q
theorem FlH.bump {h0 : Heap} {M : List Int} {A : Nat → Nat → Int} {L : List Dt} {s : Fs} {yb db bb lb : Nat} {h : Heap} (f : FlH h0 M A L s yb db bb lb h) (z : Nat) : FlH h0 M A L s yb db bb lb (h.bump z) :=
  ⟨f.d.keep (by simp) (by simp), by simp [f.b], by simp [f.l], by have := f.bl; simp; omega, by have := f.ll; simp; omega, f.ne, f.yq, f.dq, f.b0, f.l0, f.fr.bump z, by have := f.nx; simp; omega, fun q h1 h2 h3 => by simpa using f.un q h1 h2 h3⟩
def FIL (pv : D) (h0 : Heap) (M : List Int) (A : Nat → Nat → Int) (p : List Int) (s0 : Fs) (yb db bb lb : Nat) (k : Nat) (s : St) : Prop := ∃ (x : Env 71) (h : Heap) (i : Nat), s = ⟨x.l, h, []⟩ ∧ i + k = M.length ∧ x.v 1 = pv ∧ x.v 2 = .ptr bb 0 ∧ x.v 5 = D.int (fillN A M.length p s0 i).t ∧ x.v 6 = .slr lb 0 i 2 (some M.length) ∧ x.v 21 = intsD M ∧ x.v 22 = D.int M.length ∧ x.v 23 = D.int i ∧ FlH h0 M A (lsF M (fillN A M.length p s0 i).y i) (fillN A M.length p s0 i) yb db bb lb h
theorem FlH.set {h0 : Heap} {M : List Int} {A : Nat → Nat → Int} {L : List Dt} {s s' : Fs} {yb db bb lb : Nat} {h h' : Heap} (f : FlH h0 M A L s yb db bb lb h) (d : Dh M.length s'.y s'.dt yb db h') (hf : h'.Fr) (hn : h.next ≤ h'.next) (hu : ∀ q, q < h.next → q ≠ yb → q ≠ db → h'.raw q = h.raw q) : FlH h0 M A L s' yb db bb lb h' := by
  have a1 := f.yq
  have a2 := f.dq
  have a3 := f.b0
  have a4 := f.l0
  have a5 := f.bl
  have a6 := f.ll
  have a7 := f.nx
  exact ⟨d, by unfold Heap.get; rw [hu bb a5 (by omega) (by omega)]; exact f.b, by unfold Heap.get; rw [hu lb a6 (by omega) (by omega)]; exact f.l, by omega, by omega, f.ne, a1, a2, a3, a4, hf, by omega, fun q h1 h2 h3 => by rw [hu q (by omega) h2 h3]; exact f.un q h1 h2 h3⟩
theorem lsF_congr {M : List Int} {g g' : Nat → Int} {i : Nat} (h : ∀ q, q < i → g q = g' q) : lsF M g i = lsF M g' i := by
  unfold lsF
  exact List.map_congr_left fun q hq => by rw [h q (List.mem_range.1 hq)]
theorem fillN_dts {A : Nat → Nat → Int} {n : Nat} {p : List Int} {s : Fs} : ∀ i q, q < i → (fillN A n p s i).dt q = true
  | i + 1, q, h => by
    rcases Nat.lt_or_eq_of_le (Nat.le_of_lt_succ h) with e | e
    · exact (fillS_keep (fillN_dts i q e)).1
    · subst e; exact fillS_dt
theorem fillN_y {A : Nat → Nat → Int} {n : Nat} {p : List Int} {s : Fs} {i q : Nat} (h : q < i) : (fillN A n p s (i + 1)).y q = (fillN A n p s i).y q := (fillS_keep (fillN_dts i q h)).2
theorem frz_dt' (M : List Int) (A : Nat → Nat → Int) {y : Nat → Int} {dt : Nat → Bool} {yb db : Nat} {h : Heap} (h1 : h.get yb = some (.cells 3 (yCs M.length y))) (h2 : h.get db = some (.cells 4 (bCs M.length dt))) (i : Nat) : each (frz h depth) [dtS M A yb db, D.int i] = some ([dtT M A y dt, D.int i], [yb, db]) := by
  have c1 := fun n => each_canon h n _ (ints_canonL M)
  have c2 := fun n => each_canon h n _ (rows_canonL M.length A)
  have c3 := fun n => each_canon h n _ (yCs_canon M.length y)
  have c4 := fun n => each_canon h n _ (bCs_canon M.length dt)
  have l1 := yCs_len M.length y
  have l2 := bCs_len M.length dt
  have t1 : (yCs M.length y).take M.length = yCs M.length y := List.take_of_length_le (by omega)
  have t2 : (bCs M.length dt).take M.length = bCs M.length dt := List.take_of_length_le (by omega)
  have k1 := chunk_one M.length _ l1
  have k2 := chunk_one M.length _ l2
  simp [dtS, dtT, intsD, rowsD, h1, h2, c1, c2, c3, c4, l1, l2, t1, t2, k1, k2]
def k72p : Cd :=
  .region [⟨none, some 59, .inl (.mv (.s 6))⟩,
 ⟨none, some 60, .inl (.mv (.s 8))⟩,
 ⟨none, some 61, .inl (.fa (.s 2) 2)⟩,
 ⟨none, some 62, .inl (.ld false 1 (.s 61))⟩,
 ⟨none, some 63, .inl (.mv (.s 7))⟩,
 ⟨none, some 64, .inl (.ias 1 (.s 62) (.s 63))⟩,
 ⟨none, some 65, .inl (.ld false 1 (.s 64))⟩,
 ⟨none, some 66, .inl (.bld [(.int .i64 0), (.int .i64 0)] [(0, 1, (.s 60)), (1, 1, (.s 65))])⟩,
 ⟨none, some 67, .inl (.bs 84 2 1 [(.int .i64 0), (.int .i64 0)] [(0, (.s 66))])⟩,
 ⟨none, some 68, .inl (.app 84 2 16 (.s 59) (.s 67))⟩,
 ⟨none, some 6, .inl (.mv (.s 68))⟩]
def k72q : Cd :=
  .region [⟨none, some 69, .inl (.bin .add (.s 23) (.c (.int .i64 1)))⟩,
 ⟨none, some 23, .inl (.mv (.s 69))⟩]
theorem k72l0_eq : k54l0 = .seq (.region [⟨none, some 24, .inl (.bin .lss (.s 23) (.s 22))⟩])
 (.seq (.cond (.s 24) (.skip)
 (.exit 0))
 (.seq (.block 1 (.seq (.region [⟨none, some 25, .inl (.mv (.s 23))⟩,
 ⟨none, some 26, .inl (.ias 1 (.s 21) (.s 23))⟩,
 ⟨none, some 27, .inl (.ld false 1 (.s 26))⟩,
 ⟨none, some 7, .inl (.mv (.s 25))⟩,
 ⟨none, some 8, .inl (.mv (.s 27))⟩])
 (.seq (.seq (.region [⟨none, some 28, .inl (.fa (.s 2) 3)⟩,
 ⟨none, some 29, .inl (.ld false 1 (.s 28))⟩,
 ⟨none, some 30, .inl (.mv (.s 7))⟩,
 ⟨none, some 31, .inl (.ias 1 (.s 29) (.s 30))⟩,
 ⟨none, some 32, .inl (.ld false 1 (.s 31))⟩,
 ⟨none, some 33, .inl (.not (.s 32))⟩])
 (.cond (.s 33) (.seq (.region [⟨none, some 35, .inl (.ld true 4 (.s 2))⟩,
 ⟨none, some 36, .inl (.mv (.s 7))⟩,
 ⟨none, some 37, .inr (.fn 113 [(.s 35), (.s 36)])⟩,
 ⟨none, some 34, .inl (.mv (.s 37))⟩,
 ⟨none, some 38, .inl (.ex (.s 34) 0)⟩,
 ⟨none, some 39, .inl (.ex (.s 34) 1)⟩,
 ⟨none, some 40, .inl (.ex (.s 34) 2)⟩,
 ⟨none, some 9, .inl (.mv (.s 38))⟩,
 ⟨none, some 10, .inl (.mv (.s 39))⟩,
 ⟨none, some 11, .inl (.mv (.s 40))⟩])
 (.seq (.region [⟨none, some 41, .inl (.mv (.s 11))⟩])
 (.cond (.s 41) (.region [⟨none, some 42, .inl (.ld true 4 (.s 2))⟩,
 ⟨none, some 43, .inl (.mv (.s 7))⟩,
 ⟨none, some 44, .inr (.fn 63 [(.s 42), (.s 43), (.c (.int .i64 0))])⟩])
 (.seq (.draw [⟨⟨none, some 45, .inl (.ld true 4 (.s 2))⟩, some [], [], 0, false⟩,
 ⟨⟨none, some 46, .inl (.mv (.s 7))⟩, some [], [], 0, false⟩,
 ⟨⟨none, some 47, .inl (.mv (.s 9))⟩, some [], [], 0, false⟩,
 ⟨⟨none, some 48, .inl (.mv (.s 1))⟩, some [], [], 0, false⟩,
 ⟨⟨none, some 49, .inl (.mv (.s 5))⟩, some [], [], 0, false⟩,
 ⟨⟨none, some 50, .inl (.mv (.s 10))⟩, some [], [], 0, false⟩,
 ⟨⟨none, some 51, .inl (.mv (.s 9))⟩, some [], [], 0, false⟩,
 ⟨⟨none, some 52, .inl (.bin .sub (.s 50) (.s 51))⟩, some [], [], 96, false⟩,
 ⟨⟨none, some 53, .inl (.bin .add (.s 52) (.c (.int .i64 1)))⟩, some [], [], 224, false⟩,
 ⟨⟨none, some 54, .inr (.fn 114 [(.s 48), (.s 49), (.s 53)])⟩, some [], [], 504, false⟩,
 ⟨⟨none, some 55, .inl (.bin .add (.s 47) (.s 54))⟩, some [], [], 1020, false⟩,
 ⟨⟨none, some 56, .inr (.fn 63 [(.s 45), (.s 46), (.s 55)])⟩, none, [], 2047, false⟩])
 (.region [⟨none, some 57, .inl (.mv (.s 5))⟩,
 ⟨none, some 58, .inl (.bin .add (.s 57) (.c (.int .i64 1)))⟩,
 ⟨none, some 5, .inl (.mv (.s 58))⟩])))))
 (.skip)))
  k72p)))
  k72q)) := rfl
theorem zer2 : zerosD [.int .i64 0, .int .i64 0] 2 1 = [D.int 0, D.int 0] := rfl
set_option maxHeartbeats 8000000 in
theorem fill_tail (pv : D) (h0 : Heap) (M : List Int) (A : Nat → Nat → Int) (p : List Int) (s0 : Fs) (hl : M.length ≤ 64) (yb db bb lb : Nat) {n k i : Nat} (hi : i < M.length) (hik : i + k = M.length) (x : Env 71) (h : Heap) (v1 : x.v 1 = pv) (v2 : x.v 2 = .ptr bb 0) (v5 : x.v 5 = D.int (fillN A M.length p s0 (i + 1)).t) (v6 : x.v 6 = .slr lb 0 i 2 (some M.length)) (v7 : x.v 7 = D.int i) (v8 : x.v 8 = D.int M[i]) (v21 : x.v 21 = intsD M) (v22 : x.v 22 = D.int M.length) (v23 : x.v 23 = D.int i)
    (hF : FlH h0 M A (lsF M (fillN A M.length p s0 i).y i) (fillN A M.length p s0 (i + 1)) yb db bb lb h) : Res (andThen (blockK 1 (k72p.ev ⟨pg, 71, none⟩ (rc pg n) ⟨x.l, h, []⟩)) (k72q.ev ⟨pg, 71, none⟩ (rc pg n))) (Rnd (FIL pv h0 M A p s0 yb db bb lb) (fun x s => x = .exit 0 ∧ FIL pv h0 M A p s0 yb db bb lb 0 s) k) := by
  obtain ⟨a, ha⟩ : ∃ a, M[i] = a := ⟨_, rfl⟩
  rw [ha] at v8
  have hM : M.getD i 0 = a := by rw [List.getD_eq_getElem?_getD, List.getElem?_eq_getElem hi, ha]; rfl
  have hlc : lsF M (fillN A M.length p s0 (i + 1)).y (i + 1) = lsF M (fillN A M.length p s0 i).y i ++ [⟨a, (fillN A M.length p s0 (i + 1)).y i⟩] := by
    rw [lsF_snoc, hM]
    congr 1
    exact lsF_congr fun q hq => fillN_y hq
  obtain ⟨S, hS⟩ : ∃ S, S = fillN A M.length p s0 (i + 1) := ⟨_, rfl⟩
  obtain ⟨L, hL⟩ : ∃ L, L = lsF M (fillN A M.length p s0 i).y i := ⟨_, rfl⟩
  rw [← hS] at v5 hF hlc
  rw [← hL] at hF hlc
  have hLl : L.length = i := by rw [hL, lsF_len]
  have w1 : IntKind.i64.wrap ((i : Int) + 1) = (i : Int) + 1 := wrap_i64 (by omega) (by omega)
  have hfr : ∀ j, h.raw (h.next + j) = none := fun j => hF.fr _ (by omega)
  have hyg := hF.d.hy
  have hbg := hF.b
  have hlg := hF.l
  have y1 := yCs_len M.length S.y
  have g1 := fun h' => yCs_at (y := S.y) hi h'
  have i1 : i + 1 ≤ M.length := hi
  have nl := hF.ll
  have ne1 : ∀ j, (lb = h.next + j) = False := fun j => by simp; omega
  have ne2 : ∀ j, (h.next + j = lb) = False := fun j => by simp; omega
  have happ := fun t hh news => appS_cap (t := t) (et := 84) (sz := 2) (bytes := 16) (h := hh) (m := 1) (news := news) (k := lb) (n := i) (c := M.length) (ty := 84) (cs := L.flatMap dtC) (by rw [ls_cells, hLl]) (by omega) (by unfold room; omega) (by unfold maxLen; omega)
  have hcat : L.flatMap dtC ++ [D.int a, D.int (S.y i)] = (L ++ [(⟨a, S.y i⟩ : Dt)]).flatMap dtC := by simp [dtC]
  simp only [intsD, rowsD] at hbg
  simp [k72p, k72q, v1, v2, v5, v6, v7, v8, v21, v22, v23, hi, hbg, hyg, hlg, y1, g1, i1, D.cells, D.one, w1, hfr, zer2, apK_some, happ, hcat, Nat.add_assoc, List.range_succ, ne1, ne2]
  refine ⟨k - 1, by omega, _, _, i + 1, rfl, by omega, by simp [v1], by simp [v2], by simp [v5, ← hS], by simp, by simp [v21], by simp [v22], by simp, ?_⟩
  rw [← hS, hlc]
  have bl := hF.bl
  have nb := hF.ne
  have q1 := hF.yq
  have q2 := hF.dq
  have q3 := hF.l0
  have q4 := hF.nx
  have hd := hF.d
  refine ⟨⟨by simp [show yb ≠ lb by omega, show yb ≠ h.next + 67 by omega, hd.hy], by simp [show db ≠ lb by omega, show db ≠ h.next + 67 by omega, hd.hd], by have := hd.yl; simp; omega, by have := hd.dl; simp; omega, hd.ne⟩, ?_, by simp, by simp; omega, by simp; omega, nb, q1, q2, hF.b0, q3, ?_, by simp; omega, fun q h1 h2 h3 => ?_⟩
  · simp [nb, show bb ≠ h.next + 67 by omega, hF.b]
  · repeat' first | exact hF.fr | apply Heap.Fr.bump | apply Heap.Fr.set
    all_goals first | omega | (simp <;> omega)
  · have := hF.un q h1 h2 h3
    simp [show q ≠ lb by omega, show q ≠ h.next + 67 by omega, this]
theorem dcore_fz {c : Cfg} {R : Rc} {base : Nat} (d : Option Nat) (f : FuncId) (args : List X) (wt : Nat) (e : List D) (h : Heap) (a : D) (l : List D) (bs : List D) (o : D) (hs' : c.pg.sh f = false) (hl : args.map (rd c.pg.gl e) = a :: l) (ha : each (frz h depth) (a :: l) = some (bs, [])) (x : pureCall R f bs = some (.ret o)) :
    dcore c R base ⟨⟨none, d, .inr (.fn f args)⟩, some [], [], wt, false⟩ e h = some (o, h) := by
  have hk : h.kill (hids base e []) = h := by rw [hids_nil, kill_nil]
  unfold dcore
  simp only [G.want, hs', Bool.false_eq_true, if_false, hk, hl, ha, pureA_cons, pureS, orS, x, List.isEmpty_nil, Bool.true_or, Bool.true_and, Out.isPan, Out.d, beq_self_eq_true, if_true, thaw]
set_option maxHeartbeats 8000000 in
theorem fill_round (pv : D) (h0 : Heap) (M : List Int) (A : Nat → Nat → Int) (p : List Int) (s0 : Fs) (F : FillH M A p s0) (hpv : pv = intsD p ∨ (pv = .val (.slice none 0 0) ∧ p = [])) (yb db bb lb : Nat) : ∀ n, 200 ≤ n → ∀ k s, FIL pv h0 M A p s0 yb db bb lb k s → Res (k54l0.ev ⟨pg, 71, none⟩ (rc pg n) s) (Rnd (FIL pv h0 M A p s0 yb db bb lb) (fun x s => x = .exit 0 ∧ FIL pv h0 M A p s0 yb db bb lb 0 s) k) := by
  rintro n hn k s ⟨x, h, i, rfl, hik, v1, v2, v5, v6, v21, v22, v23, hF⟩
  simp only [intsD] at v21
  have hl := F.len
  by_cases hi : i < M.length
  · obtain ⟨S, hS⟩ : ∃ S, S = fillN A M.length p s0 i := ⟨_, rfl⟩
    have hSn : fillN A M.length p s0 (i + 1) = fillS A M.length p S i := by rw [hS]; rfl
    obtain ⟨a, ha⟩ : ∃ a, M[i] = a := ⟨_, rfl⟩
    have hM : M.getD i 0 = a := by rw [List.getD_eq_getElem?_getD, List.getElem?_eq_getElem hi, ha]; rfl
    have hHy := F.hy i (by omega)
    have hHr := F.hr i hi
    have hFt := fillN_t (A := A) (n := M.length) (p := p) (s := s0) i
    have hT := F.tl
    have hlc : lsF M (fillN A M.length p s0 (i + 1)).y (i + 1) = lsF M S.y i ++ [⟨a, (fillN A M.length p s0 (i + 1)).y i⟩] := by
      rw [lsF_snoc, hM]
      congr 1
      rw [hS]
      exact lsF_congr fun q hq => fillN_y hq
    rw [← hS] at v5 hF hHy hHr hFt
    have w1 : IntKind.i64.wrap ((i : Int) + 1) = (i : Int) + 1 := wrap_i64 (by omega) (by omega)
    have hfr : ∀ j, h.raw (h.next + j) = none := fun j => hF.fr _ (by omega)
    have hd := hF.d
    have hyg := hd.hy
    have hdg := hd.hd
    have hbg := hF.b
    have hlg := hF.l
    have y1 := yCs_len M.length S.y
    have b1 := bCs_len M.length S.dt
    have g1 := fun h' => yCs_at (y := S.y) hi h'
    have g3 := fun h' => bCs_at (dt := S.dt) hi h'
    have i1 : i + 1 ≤ M.length := hi
    have s103 : pg.sh 113 = false := rfl
    have s76 : pg.sh 63 = true := rfl
    have s104 : pg.sh 114 = false := rfl
    have c103 := fun H h1 h2 => callfz (h := H) s103 (frz_dt' M A (y := S.y) (dt := S.dt) (yb := yb) (db := db) h1 h2 i) (room_run M hl A F.hA S.y hHy S.dt i hi (n := n) (by omega)) rfl
    simp only [dtS, intsD, rowsD] at c103 hbg
    have ne1 : (lb = yb) = False := by have := hF.l0; have := hF.yq; simp; omega
    have ne2 : (lb = db) = False := by have := hF.l0; have := hF.dq; simp; omega
    have ne3 : (bb = yb) = False := by have := hF.b0; have := hF.yq; simp; omega
    have ne4 : (bb = db) = False := by have := hF.b0; have := hF.dq; simp; omega
    cases hdi : S.dt i with
    | true =>
      rw [hdi] at g3
      have e0 : fillS A M.length p S i = S := by unfold fillS; rw [if_pos hdi]
      simp [k72l0_eq, v1, v2, v5, v6, v21, v22, v23, hi, ha, hbg, hdg, hyg, b1, g3, i1, D.cells, D.one]
      rw [e0] at hSn
      refine fill_tail pv h0 M A p s0 hl yb db bb lb hi hik _ _ (by simp [v1]) (by simp [v2]) (by simp [v5, hSn]) (by simp [v6]) (by simp) (by simp [ha]) (by simp [v21, intsD]) (by simp [v22]) (by simp [v23]) ?_
      rw [hSn, ← hS]
      exact ((hF.bump _).bump _).bump _
    | false =>
      rw [hdi] at g3
      cases hfree : (roomI A S.dt S.y i M.length).2.2 with
      | true =>
        have e0 : fillS A M.length p S i = S.put i 0 S.t := by unfold fillS; rw [if_neg (by simp [hdi]), if_pos hfree]
        rw [e0] at hSn
        have hF6 := (((((hF.bump 71).bump 71).bump 71).bump 71).bump 71).bump 71
        obtain ⟨h', e1, d1, f1, n1, u1⟩ := set_sh' M A hF6.d hF6.fr hi 0 (f := n) (by omega)
        have c76 := call_sh (pg := pg) s76 e1
        simp only [dtS, intsD, rowsD] at c76
        simp [k72l0_eq, v1, v2, v5, v6, v21, v22, v23, hi, ha, hbg, hdg, hyg, b1, g3, i1, D.cells, D.one, c103, hfree, c76]
        refine fill_tail pv h0 M A p s0 hl yb db bb lb hi hik _ _ (by simp [v1]) (by simp [v2]) (by simp [v5, hSn, Fs.put]) (by simp [v6]) (by simp) (by simp [ha]) (by simp [v21, intsD]) (by simp [v22]) (by simp [v23]) ?_
        rw [hSn, ← hS]
        exact hF6.set d1 f1 n1 u1
      | false =>
        obtain ⟨r1, r2, r3⟩ := hHr hdi hfree
        obtain ⟨lo, hlo⟩ : ∃ lo, lo = (roomI A S.dt S.y i M.length).1 := ⟨_, rfl⟩
        obtain ⟨hi', hhi⟩ : ∃ hi', hi' = (roomI A S.dt S.y i M.length).2.1 := ⟨_, rfl⟩
        have e0 : fillS A M.length p S i = S.put i (lo + pickI p S.t (hi' - lo + 1)) (S.t + 1) := by unfold fillS; rw [if_neg (by simp [hdi]), if_neg (by simp [hfree]), hlo, hhi]
        rw [e0] at hSn
        rw [← hlo, ← hhi] at r2
        rw [← hlo] at r1
        rw [← hhi] at r3
        rw [← hlo, ← hhi] at c103
        have hpl := F.pl
        obtain ⟨q1, q2⟩ := pick_in p S.t (c := hi' - lo + 1) (by omega)
        have c104 := pick_run p (by omega) S.t (by omega) (hi' - lo + 1) (by omega) (by omega) (n := n) (by omega)
        have c104d : ∀ (y : Env 71) (b : Nat) (H : Heap), y.v 48 = pv → y.v 49 = D.int S.t → y.v 53 = D.int (hi' - lo + 1) → dcore ⟨pg, 71, none⟩ (rc pg n) b ⟨⟨none, some 54, .inr (.fn 114 [.s 48, .s 49, .s 53])⟩, some [], [], 504, false⟩ y.l H = some (D.int (pickI p S.t (hi' - lo + 1)), H) := by
          intro y b H u1 u2 u3
          refine dcore_fz _ _ _ _ _ _ pv [D.int S.t, D.int (hi' - lo + 1)] [intsD p, D.int S.t, D.int (hi' - lo + 1)] _ s104 (by simp [u1, u2, u3]) ?_ c104
          rcases hpv with rfl | ⟨rfl, rfl⟩
          · exact each_canon H 23 _ (by simp [intsD, ints_canonL])
          · rfl
        have x1 : IntKind.i64.wrap (hi' - lo) = hi' - lo := wrap_i64 (by omega) (by omega)
        have x2 : IntKind.i64.wrap (hi' - lo + 1) = hi' - lo + 1 := wrap_i64 (by omega) (by omega)
        have x3 : IntKind.i64.wrap (lo + pickI p S.t (hi' - lo + 1)) = lo + pickI p S.t (hi' - lo + 1) := wrap_i64 (by omega) (by omega)
        have x4 : IntKind.i64.wrap ((S.t : Int) + 1) = ((S.t + 1 : Nat) : Int) := by rw [wrap_i64 (by omega) (by omega)]; omega
        have hF6 := (((((hF.bump 71).bump 71).bump 71).bump 71).bump 71).bump 71
        obtain ⟨h', e1, d1, f1, n1, u1⟩ := set_sh' M A hF6.d hF6.fr hi (lo + pickI p S.t (hi' - lo + 1)) (f := n) (by omega)
        have c76 := call_sh (pg := pg) s76 e1
        simp only [dtS, intsD, rowsD] at c76
        simp [k72l0_eq, v1, v2, v5, v6, v21, v22, v23, hi, ha, hbg, hdg, hyg, b1, g3, i1, D.cells, D.one, c103, hfree, dcore_c, c104d, x1, x2, x3, x4, c76]
        refine fill_tail pv h0 M A p s0 hl yb db bb lb hi hik _ _ (by simp [v1]) (by simp [v2]) (by simp [hSn, Fs.put]) (by simp [v6]) (by simp) (by simp [ha]) (by simp [v21, intsD]) (by simp [v22]) (by simp [v23]) ?_
        rw [hSn, ← hS]
        exact (hF6.set d1 f1 n1 u1).bump _
  · simp [k72l0_eq, v22, v23, hi]
    exact ⟨_, _, i, rfl, by omega, by simp [v1], by simp [v2], by simp [v5], by simp [v6], by simp [v21, intsD], by simp [v22], by simp [v23], hF.bump _⟩
end Go.Proofs.YtgbkdjlekfjkfaaGreatDoor
/- Chronologies, by the program. -/
namespace Go.Proofs.YtgbkdjlekfjkfaaGreatDoor
open Go Go.Em Go.Em.Net
set_option maxRecDepth 100000
set_option maxHeartbeats 8000000 in
theorem fill_sh (M : List Int) (A : Nat → Nat → Int) (p : List Int) (s0 : Fs) (F : FillH M A p s0) (ht : s0.t = 0) {pv : D} (hpv : pv = intsD p ∨ (pv = .val (.slice none 0 0) ∧ p = [])) {yb db : Nat} {h : Heap} (hd : Dh M.length s0.y s0.dt yb db h) (hf : h.Fr) {f : Nat} (hfl : 400 ≤ f) :
    ∃ lb h', (rc pg f).fn 54 [dtS M A yb db, pv] h = some (.ret (.slr lb 0 M.length 2 (some M.length)), h') ∧ h'.get lb = some (.cells 84 ((lsF M (fillN A M.length p s0 M.length).y M.length).flatMap dtC)) ∧ Dh M.length (fillN A M.length p s0 M.length).y (fillN A M.length p s0 M.length).dt yb db h' ∧ h.next ≤ lb ∧ lb < h'.next ∧ h'.Fr ∧ h.next ≤ h'.next ∧ ∀ q, q < h.next → q ≠ yb → q ≠ db → h'.raw q = h.raw q := by
  obtain ⟨m, rfl, e⟩ := fn_body (pg := pg) (f := 54) (args := [dtS M A yb db, pv]) (h := h) (show 0 < f by omega) rfl rfl
  rw [e]
  have hl := F.len
  have hfr : ∀ j, h.raw (h.next + j) = none := fun j => hf _ (by omega)
  have hr1 : (16 : Int) * M.length ≤ (room : Int) := by unfold room; omega
  have hz : zerosD [.int .i64 0, .int .i64 0] 2 0 = [] := rfl
  have hyl := hd.yl
  have hdl := hd.dl
  simp [k54, Env.v_ini, dtS, intsD, rowsD, hfr, hr1, hz, D.cells, D.one, Nat.add_assoc, ev_loop]
  suffices hS : ∃ d h', _ = some (Out.ret ((fun lb : Nat => D.slr lb 0 M.length 2 (some M.length)) d), h') ∧ (fun (lb : Nat) (h' : Heap) => h'.get lb = some (.cells 84 ((lsF M (fillN A M.length p s0 M.length).y M.length).flatMap dtC)) ∧ Dh M.length (fillN A M.length p s0 M.length).y (fillN A M.length p s0 M.length).dt yb db h' ∧ h.next ≤ lb ∧ lb < h'.next ∧ h'.Fr ∧ h.next ≤ h'.next ∧ ∀ q, q < h.next → ¬ q = yb → ¬ q = db → h'.raw q = h.raw q) d h' by
    obtain ⟨lb, h', e1, c⟩ := hS
    exact ⟨lb, h', e1, c⟩
  refine Res.tailG (F := fun lb : Nat => D.slr lb 0 M.length 2 (some M.length)) (lp_rule 200 (FIL pv h M A p s0 yb db (h.next + 2) (h.next + 159)) _ (fill_round pv h M A p s0 F hpv yb db (h.next + 2) (h.next + 159)) M.length m _ (by omega) ⟨_, _, 0, rfl, by omega, by simp [Env.v_ini], by simp, by simp [fillN, ht], by simp, by simp [intsD], by simp, by simp, ⟨⟨by simp [show yb ≠ h.next + 2 by omega, show yb ≠ h.next + 159 by omega, hd.hy, fillN], by simp [show db ≠ h.next + 2 by omega, show db ≠ h.next + 159 by omega, hd.hd, fillN], by simp; omega, by simp; omega, hd.ne⟩, by simp [intsD, rowsD], by simp [lsF], by simp <;> omega, by simp <;> omega, by omega, hyl, hdl, by omega, by omega, ?_, by simp; omega, fun q h1 h2 h3 => by simp [show q ≠ h.next + 2 by omega, show q ≠ h.next + 159 by omega]⟩⟩) ?_
  · repeat' first | exact hf | apply Heap.Fr.bump | apply Heap.Fr.set
    all_goals first | omega | (simp <;> omega)
  · rintro x s ⟨rfl, x, h', i, rfl, hi, v1, v2, v5, v6, v21, v22, v23, hF⟩
    have hil : i = M.length := by omega
    subst hil
    have hF' := hF.bump 71
    refine ⟨h.next + 159, _, by simp [v6], hF'.l, hF'.d, hF'.l0, hF'.ll, hF'.fr, hF'.nx, fun q h1 h2 h3 => hF'.un q h1 h2 h3⟩
end Go.Proofs.YtgbkdjlekfjkfaaGreatDoor
/- Chronologies, by the program: the function; that they keep the claims. -/
namespace Go.Proofs.YtgbkdjlekfjkfaaGreatDoor
open Go Go.Em Go.Em.Net
set_option maxRecDepth 100000
theorem fillN_un {A : Nat → Nat → Int} {n : Nat} {p : List Int} {s : Fs} {q : Nat} : ∀ {i : Nat}, (fillN A n p s i).dt q = false → (fillN A n p s i).y q = s.y q
  | 0, _ => rfl
  | i + 1, h => by
    by_cases e : q = i
    · subst e
      have : (fillN A n p s (q + 1)).dt q = true := fillS_dt
      rw [this] at h; cases h
    · obtain ⟨a, b⟩ := fillS_ne (A := A) (n := n) (p := p) (s := fillN A n p s i) e
      have h' : (fillN A n p s i).dt q = false := by rw [← a]; exact h
      rw [← fillN_un h']
      exact b
theorem fillH_of {l : List Clm} (h0 : chkF l = 0) (hb : badF l = false) {p : List Int} (hp : p.length ≤ 4000000000000000000) {s0 : Fs} (ht : s0.t = 0) (f : FOk (marksF l).length (cloF l) s0.dt s0.y) (hy0 : ∀ j, -1000000000 ≤ s0.y j ∧ s0.y j ≤ 1000000000) : FillH (marksF l) (encM (cloF l)) p s0 := by
  have c := clo_clsd h0 hb
  have bt := clo_small h0 hb
  have ho := clo_out h0
  have ok := fillN_ok f c bt ho p
  refine ⟨(chk_ok h0).2.2, hp, by omega, enc_bd bt, fun i hi j hj => ?_, fun i hi hd hf => ?_⟩
  · cases e : (fillN (encM (cloF l)) (marksF l).length p s0 i).dt j with
    | true => have := (ok i hi).1.bd c bt hj e; omega
    | false => rw [fillN_un e]; have := hy0 j; omega
  · obtain ⟨a, b, d, _⟩ := (ok i (by omega)).1.tied c bt hi hd ho hf
    exact ⟨b, a, d⟩
def s00 : Fs := ⟨fun _ => false, fun _ => 0, 0⟩
theorem f00 (n : Nat) (N : Mx) : FOk n N s00.dt s00.y := ⟨fun i j c h _ _ => (by cases h), fun j hj h => (by cases h)⟩
def chrY (l : List Clm) (p : List Int) : Nat → Int := (fillN (encM (cloF l)) (marksF l).length p s00 (marksF l).length).y
def chrL (l : List Clm) (p : List Int) : List Dt := if cerF l = 0 then lsF (marksF l) (chrY l p) (marksF l).length else []
theorem dts_frz (L : List Dt) {n lb : Nat} {h : Heap} (hn : n = L.length) (hg : h.get lb = some (.cells 84 (L.flatMap dtC))) (k : Nat) : frz h (k + 3) (.slr lb 0 n 2 (some n)) = some (dtsD L, [lb]) := by
  have hea := each_canon h (k + 1) (L.flatMap dtC) (canonL_flatMap dtC (fun c => by simp [dtC]) L)
  have hc : (L.flatMap dtC).take (n * 2) = L.flatMap dtC := List.take_of_length_le (by rw [ls_cells]; omega)
  have hch := chunk_flatMap (sz := 2) dtC (by decide) (fun _ => rfl) L n hn
  rw [frz_slr, hg, frzS_cells]
  simp only [List.drop_zero, hc, hea, Option.map_some, hch, Nat.zero_add]
  rw [if_pos ⟨by rw [ls_cells]; omega, by omega⟩]; rfl
def chrD (l : List Clm) (p : List Int) : D := .tup [dtsD (chrL l p), D.int (cerF l)]
set_option maxHeartbeats 8000000 in
theorem chrono_run (l : List Clm) (p : List Int) (hp : p.length ≤ 4000000000000000000) {f : Nat} (hf : 1400 ≤ f) : pureCall (rc pg f) 11 [clsD l, intsD p] = some (.ret (chrD l p)) := by
  obtain ⟨m, rfl, e⟩ := body (pg := pg) (f := 11) (args := [clsD l, intsD p]) (show 0 < f by omega) rfl rfl
  rw [e]
  have c30 := fun h => call_of (h := h) (pg := pg) (f := 38) rfl (cls_canon l) (@chk_run l m (by omega))
  simp only [clsD] at c30
  by_cases h0 : chkF l = 0
  · rw [h0] at c30
    have c46 := fun h => call_of (h := h) (pg := pg) (f := 39) rfl (two_ok l) (@graph_run l h0 m (by omega))
    have c48 := fun h => call_of (h := h) (pg := pg) (f := 52) rfl (gr_canon (marksF l) (movsF (marksF l) 0 l)) (@closure_all l h0 m (by omega))
    simp only [clsD, eachD, grD, intsD, mosD] at c46 c48
    cases hbad : badF l with
    | true =>
      have e0 : cerF l = 25 := by unfold cerF; simp [h0, hbad]
      have e1 : chrD l p = .tup [.sl false [], D.int 25] := by unfold chrD chrL; rw [e0]; rfl
      rw [hbad] at c48
      simp only [cond_true] at c48
      simp [-beq_iff_eq, k11, Env.v_ini, clsD, D.cells, D.one, c30, c46, c48, e1]
    | false =>
      have e0 : cerF l = 0 := cer_of h0 hbad
      have e1 : chrD l p = .tup [dtsD (lsF (marksF l) (chrY l p) (marksF l).length), D.int 0] := by unfold chrD chrL; rw [e0, if_pos rfl]
      rw [hbad] at c48
      simp only [cond_false] at c48
      unfold rowsD at c48
      have s71 : pg.sh 53 = true := rfl
      have s72 : pg.sh 54 = true := rfl
      obtain ⟨H, hH⟩ : ∃ H, H = (((((((Heap.empty.bump 26).bump 26).bump 26).bump 26).set 85 (some (.cells 90 [D.val (.slice none 0 0), D.val (.slice none 0 0)]))).set 85 (some (.cells 90 [intsD (marksF l), rowsD (marksF l).length (encM (cloF l))]))).bump 26).bump 26 := ⟨_, rfl⟩
      have hH85 : H.get 85 = some (.cells 90 [intsD (marksF l), rowsD (marksF l).length (encM (cloF l))]) := by rw [hH]; simp
      have hHf : H.Fr := by
        rw [hH]
        repeat' first | exact Heap.Fr.empty | apply Heap.Fr.bump | apply Heap.Fr.set
        all_goals simp
      obtain ⟨yb, db, h1, d1, d2, d3, d4, d5, d6⟩ := nwd_sh (marksF l) (encM (cloF l)) (chk_ok h0).2.2 hHf (f := m) (by omega)
      have F := fillH_of h0 hbad hp (s0 := s00) rfl (f00 _ _) (fun j => by simp [s00])
      obtain ⟨lb, h2, q1, q2, q3, q4, q5, q6, q7, q8⟩ := fill_sh (marksF l) (encM (cloF l)) p s00 F rfl (.inl rfl) d2 d3 (f := m) (by omega)
      have c71 := call_sh (pg := pg) s71 d1
      have c72 := call_sh (pg := pg) s72 q1
      simp only [nD, intsD, rowsD, dtS] at c71 c72 hH hH85
      have hz := dts_frz (lsF (marksF l) (chrY l p) (marksF l).length) (n := (marksF l).length) (lb := lb) (h := h2) (by rw [lsF_len]) q2 20
      simp only [frz_slr] at hz
      simp [-beq_iff_eq, k11, Env.v_ini, clsD, intsD, D.cells, D.one, c30, c46, c48, e1, ← hH, hH85, c71, c72, hz]
  · have h0' : (chkF l != 0) = true := by simpa using h0
    have e0 : cerF l = chkF l := by unfold cerF; rw [if_pos h0]
    have e1 : chrD l p = .tup [.sl false [], D.int (chkF l)] := by unfold chrD chrL; rw [e0, if_neg h0]; rfl
    simp [-bne_iff_ne, k11, Env.v_ini, clsD, D.cells, D.one, c30, h0', e1]
end Go.Proofs.YtgbkdjlekfjkfaaGreatDoor
