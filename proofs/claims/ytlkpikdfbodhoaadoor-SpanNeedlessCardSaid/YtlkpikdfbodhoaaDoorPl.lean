/- The place of a mark that may not be there. -/
import Derived.Test.YtlkpikdfbodhoaaDoorKp1
import Derived.Test.YtlkpikdfbodhoaaDoorMul
import Derived.Test.YtlkpikdfbodhoaaDoorEmNet
namespace Go.Proofs.YtlkpikdfbodhoaaDoor
open Go Go.Em
set_option maxRecDepth 100000
end Go.Proofs.YtlkpikdfbodhoaaDoor
/- The closure of claims between two marks, by the program. -/
namespace Go.Proofs.YtlkpikdfbodhoaaDoor
open Go Go.Em Go.Em.Net
set_option maxRecDepth 100000
end Go.Proofs.YtlkpikdfbodhoaaDoor
/- Bounds, by the program. -/
namespace Go.Proofs.YtlkpikdfbodhoaaDoor
open Go Go.Em Go.Em.Net
set_option maxRecDepth 100000
end Go.Proofs.YtlkpikdfbodhoaaDoor
/- The closure of claims: it does not depend on their order, and no bound grows with more of them. -/
namespace Go.Proofs.YtlkpikdfbodhoaaDoor
open Go Go.Em Go.Em.Net
theorem mvs_mem {M : List Int} {x : Mv} : ∀ {l : List Clm} {i : Nat}, x ∈ mvs (movsF M i l) ↔ ∃ c ∈ l, x = (placeF M c.a, placeF M c.b, c.hi) ∨ x = (placeF M c.b, placeF M c.a, -c.lo)
  | [], i => by simp [movsF, mvs]
  | a :: l, i => by
    have ih := @mvs_mem M x l (i + 1)
    have e : mvs (movsF M i (a :: l)) = (placeF M a.a, placeF M a.b, a.hi) :: (placeF M a.b, placeF M a.a, -a.lo) :: mvs (movsF M (i + 1) l) := by simp [mvs, movsF, movF]
    rw [e, List.mem_cons, List.mem_cons, ih]
    simp only [List.mem_cons, exists_eq_or_imp, or_assoc]
theorem rise_len : ∀ (m l : List Int), Rise l → Rise m → (∀ x, x ∈ l → x ∈ m) → l.length ≤ m.length
  | _, [], _, _, _ => Nat.zero_le _
  | [], a :: l, _, _, h => absurd (h a List.mem_cons_self) List.not_mem_nil
  | b :: m, a :: l, hl, hm, h => by
    have hl' := List.pairwise_cons.1 hl
    have hm' := List.pairwise_cons.1 hm
    rw [List.length_cons, List.length_cons]
    by_cases e : a = b
    · subst e
      have := rise_len m l hl'.2 hm'.2 fun x hx => by
        have h1 := hl'.1 x hx
        rcases List.mem_cons.1 (h x (List.mem_cons_of_mem _ hx)) with rfl | h2
        · omega
        · exact h2
      omega
    · have ha : a ∈ m := by
        rcases List.mem_cons.1 (h a List.mem_cons_self) with e' | h2
        · exact absurd e' e
        · exact h2
      have hba := hm'.1 a ha
      have := rise_len m (a :: l) hl hm'.2 fun x hx => by
        rcases List.mem_cons.1 (h x hx) with rfl | h2
        · rcases List.mem_cons.1 hx with rfl | hx
          · omega
          · have := hl'.1 _ hx; omega
        · exact h2
      rw [List.length_cons] at this
      omega
theorem marks_sub {l x : List Clm} (h : ∀ c, c ∈ l → c ∈ x) : ∀ v, v ∈ marksF l → v ∈ marksF x := by
  intro v hv
  obtain ⟨c, hc, e⟩ := (marks_mem l v).1 hv
  exact (marks_mem x v).2 ⟨c, h c hc, e⟩
def upF (l x : List Clm) (i : Nat) : Nat := placeF (marksF x) ((marksF l).getD i 0)
theorem up_place {l x : List Clm} {v : Int} (hv : v ∈ marksF l) : upF l x (placeF (marksF l) v) = placeF (marksF x) v := by
  obtain ⟨h1, h2⟩ := place_at hv
  unfold upF
  rw [List.getD_eq_getElem?_getD, List.getElem?_eq_getElem h1, h2]; rfl
theorem up_lt {l x : List Clm} (h : ∀ c, c ∈ l → c ∈ x) {i : Nat} (hi : i < (marksF l).length) : upF l x i < (marksF x).length := by
  unfold upF
  rw [List.getD_eq_getElem?_getD, List.getElem?_eq_getElem hi]
  exact (place_at (marks_sub h _ (List.getElem_mem hi))).1
theorem net_sub {l x : List Clm} (h0 : chkF l = 0) (h1 : chkF x = 0) (h : ∀ c, c ∈ l → c ∈ x) : ∀ i j c, netF l i j = some c → ∃ d, netF x (upF l x i) (upF l x j) = some d ∧ d ≤ c := by
  have k := kn_EF (good_movs h0).hin
  have k' := kn_EF (good_movs h1).hin
  intro i j c hc
  rcases k.he i j c hc with ⟨rfl, rfl⟩ | hm
  · have hi : i < (marksF l).length := Decidable.byContradiction fun hn => by
      have := k.out i i (by omega)
      unfold netF at hc
      rw [this] at hc; cases hc
    exact ⟨0, k'.diag _ (up_lt h hi), Int.le_refl _⟩
  · obtain ⟨q, hq, e⟩ := mvs_mem.1 hm
    have ha : q.a ∈ marksF l := (marks_mem l q.a).2 ⟨q, hq, .inl rfl⟩
    have hb : q.b ∈ marksF l := (marks_mem l q.b).2 ⟨q, hq, .inr rfl⟩
    have hx : ∀ y, (y = (placeF (marksF x) q.a, placeF (marksF x) q.b, q.hi) ∨ y = (placeF (marksF x) q.b, placeF (marksF x) q.a, -q.lo)) → ∃ d, netF x y.1 y.2.1 = some d ∧ d ≤ y.2.2 := fun y hy => k'.hm y (mvs_mem.2 ⟨q, h q hq, hy⟩)
    rcases e with e | e
    · obtain ⟨e1, e2⟩ := Prod.mk.inj e
      obtain ⟨e2, e3⟩ := Prod.mk.inj e2
      rw [e1, e2, e3, up_place ha, up_place hb]
      exact hx _ (.inl rfl)
    · obtain ⟨e1, e2⟩ := Prod.mk.inj e
      obtain ⟨e2, e3⟩ := Prod.mk.inj e2
      rw [e1, e2, e3, up_place ha, up_place hb]
      exact hx _ (.inr rfl)
theorem pot_of {l : List Clm} (h0 : chkF l = 0) (hb : badF l = false) : ∃ p : Nat → Int, ∀ i j c, netF l i j = some c → p j ≤ p i + c := by
  have k := kn_EF (good_movs h0).hin
  by_cases hn : 0 < (marksF l).length
  · unfold badF conF at hb
    rw [decide_eq_true hn, Bool.true_and] at hb
    obtain ⟨p, hp⟩ := not_all hb
    refine ⟨p, fun i j c hc => ?_⟩
    rcases k.he i j c hc with ⟨rfl, rfl⟩ | hm
    · omega
    · exact hp _ hm
  · refine ⟨fun _ => 0, fun i j c hc => ?_⟩
    have := k.out i j (by omega)
    unfold netF at hc
    rw [this] at hc; cases hc
theorem bad_sub {l x : List Clm} (h0 : chkF l = 0) (h1 : chkF x = 0) (h : ∀ c, c ∈ l → c ∈ x) (hb : badF x = false) : badF l = false := by
  obtain ⟨p, hp⟩ := pot_of h1 hb
  refine (bad_iff h0).2 fun k _ i hi => ?_
  refine pot_diag (p := fun i => p (upF l x i)) (fun a b c hc => ?_) ((kn_EF (good_movs h0).hin).diag i hi) k
  obtain ⟨d, hd, hl⟩ := net_sub h0 h1 h a b c hc
  have := hp _ _ _ hd
  show p (upF l x b) ≤ p (upF l x a) + c
  omega
end Go.Proofs.YtlkpikdfbodhoaaDoor
/- Years that are given to marks one after the other, each within the room that the bounds leave it: mathematics. -/
namespace Go.Proofs.YtlkpikdfbodhoaaDoor
open Go Go.Em Go.Em.Net
def roomI (A : Nat → Nat → Int) (dt : Nat → Bool) (y : Nat → Int) (i : Nat) : Nat → Int × Int × Bool
  | 0 => (-1000000000, 1000000000, true)
  | J + 1 => if dt J = true ∧ A i J ≠ 1000000000 then (max (roomI A dt y i J).1 (y J - A i J), min (roomI A dt y i J).2.1 (y J + A J i), false) else roomI A dt y i J
structure FOk (n : Nat) (N : Mx) (dt : Nat → Bool) (y : Nat → Int) : Prop where
  kept : Kept N dt y
  root : ∀ j, j < n → dt j = true → ∃ r, r < n ∧ dt r = true ∧ N r j ≠ none ∧ -100000000 ≤ y r ∧ y r ≤ 100000000
theorem FOk.bd {n : Nat} {N : Mx} {dt : Nat → Bool} {y : Nat → Int} (f : FOk n N dt y) (h : Clsd n N) (hb : Bt N) {j : Nat} (hj : j < n) (hd : dt j = true) : -200000000 ≤ y j ∧ y j ≤ 200000000 := by
  obtain ⟨r, hr, h1, h2, h3, h4⟩ := f.root j hj hd
  obtain ⟨c, hc⟩ := Option.ne_none_iff_exists'.1 h2
  obtain ⟨d, hd'⟩ := Option.ne_none_iff_exists'.1 (h.sym h2)
  have a1 := f.kept r j c h1 hd hc
  have a2 := f.kept j r d hd h1 hd'
  have a3 := hb _ _ _ hc
  have a4 := hb _ _ _ hd'
  omega
def pickI (p : List Int) (t : Nat) (c : Int) : Int := if p = [] ∨ c < 1 then 0 else p.getD (t % p.length) 0 % c
structure Fs where
  dt : Nat → Bool
  y : Nat → Int
  t : Nat
def Fs.put (s : Fs) (i : Nat) (v : Int) (t : Nat) : Fs := ⟨fun q => if q = i then true else s.dt q, fun q => if q = i then v else s.y q, t⟩
def fillS (A : Nat → Nat → Int) (n : Nat) (p : List Int) (s : Fs) (i : Nat) : Fs :=
  if s.dt i = true then s
  else if (roomI A s.dt s.y i n).2.2 = true then s.put i 0 s.t
  else s.put i ((roomI A s.dt s.y i n).1 + pickI p s.t ((roomI A s.dt s.y i n).2.1 - (roomI A s.dt s.y i n).1 + 1)) (s.t + 1)
def fillN (A : Nat → Nat → Int) (n : Nat) (p : List Int) (s : Fs) : Nat → Fs
  | 0 => s
  | i + 1 => fillS A n p (fillN A n p s i) i
end Go.Proofs.YtlkpikdfbodhoaaDoor
/- Whether a net is closed, by the program: the closure of claims is. -/
namespace Go.Proofs.YtlkpikdfbodhoaaDoor
open Go Go.Em Go.Em.Net
set_option maxRecDepth 100000
def nD (M : List Int) (A : Nat → Nat → Int) : D := .agg [intsD M, rowsD M.length A]
theorem rows_canonL (n : Nat) (A : Nat → Nat → Int) : D.canonL ((List.range n).map fun i => D.sl false (yCs n (A i))) = true := canonL_map _ (fun i => by simp [yCs_canon]) _
end Go.Proofs.YtlkpikdfbodhoaaDoor
/- Whether a net is closed, by the program: the loops, and the answer. -/
namespace Go.Proofs.YtlkpikdfbodhoaaDoor
open Go Go.Em Go.Em.Net
set_option maxRecDepth 100000
end Go.Proofs.YtlkpikdfbodhoaaDoor
/- Whether a net is closed, by the program: the other loops, and the answer. -/
namespace Go.Proofs.YtlkpikdfbodhoaaDoor
open Go Go.Em Go.Em.Net
set_option maxRecDepth 100000
end Go.Proofs.YtlkpikdfbodhoaaDoor
/- The closure of claims, by the program's exported function; nets that are equal; claims with one more. -/
namespace Go.Proofs.YtlkpikdfbodhoaaDoor
open Go Go.Em Go.Em.Net
set_option maxRecDepth 100000
def nilN : D := .agg [.sl false [], .sl false []]
def cerF (l : List Clm) : Int := if chkF l ≠ 0 then chkF l else if badF l = true then 25 else 0
def cloD' (l : List Clm) : D := .tup [if cerF l = 0 then nD (marksF l) (encM (cloF l)) else nilN, D.int (cerF l)]
theorem cer_of {l : List Clm} (h0 : chkF l = 0) (hb : badF l = false) : cerF l = 0 := by unfold cerF; simp [h0, hb]
set_option maxHeartbeats 8000000 in
theorem close_run (l : List Clm) {f : Nat} (hf : 1200 ≤ f) : pureCall (rc pg f) 25 [clsD l] = some (.ret (cloD' l)) := by
  obtain ⟨m, rfl, e⟩ := body (pg := pg) (f := 25) (args := [clsD l]) (show 0 < f by omega) rfl rfl
  rw [e]
  have c30 := fun h => call_of (h := h) (pg := pg) (f := 29) rfl (cls_canon l) (@chk_run l m (by omega))
  simp only [clsD] at c30
  by_cases h0 : chkF l = 0
  · rw [h0] at c30
    have c46 := fun h => call_of (h := h) (pg := pg) (f := 51) rfl (two_ok l) (@graph_run l h0 m (by omega))
    have c48 := fun h => call_of (h := h) (pg := pg) (f := 70) rfl (gr_canon (marksF l) (movsF (marksF l) 0 l)) (@closure_all l h0 m (by omega))
    simp only [clsD, eachD, grD, intsD, mosD] at c46 c48
    have hc1 := ints_canonL (marksF l)
    cases hbad : badF l with
    | true =>
      have e0 : cerF l = 25 := by unfold cerF; simp [h0, hbad]
      have e1 : cloD' l = .tup [nilN, D.int 25] := by unfold cloD'; rw [e0]; rfl
      rw [hbad] at c48
      simp only [cond_true] at c48
      simp [-beq_iff_eq, k25, Env.v_ini, clsD, D.cells, D.one, c30, c46, c48, e1, nilN]
    | false =>
      have e0 : cerF l = 0 := cer_of h0 hbad
      have e1 : cloD' l = .tup [nD (marksF l) (encM (cloF l)), D.int 0] := by unfold cloD'; rw [e0]; rfl
      rw [hbad] at c48
      simp only [cond_false] at c48
      have hcX := rows_canonL (marksF l).length (encM (cloF l))
      have hx20 := fun H => each_canon H 20 _ hcX
      unfold rowsD at c48
      simp [-beq_iff_eq, k25, Env.v_ini, clsD, D.cells, D.one, c30, c46, c48, e1, nD, intsD, rowsD, hx20]
  · have h0' : (chkF l != 0) = true := by simpa using h0
    have e0 : cerF l = chkF l := by unfold cerF; rw [if_pos h0]
    have e1 : cloD' l = .tup [nilN, D.int (chkF l)] := by unfold cloD'; rw [e0, if_neg h0]
    simp [-bne_iff_ne, k25, Env.v_ini, clsD, D.cells, D.one, c30, h0', e1, nilN]
/-! ### Equal nets -/
theorem sameF_self (a : List Int) : sameF a a = true := by unfold sameF; simp
theorem yCs_ints (n : Nat) (y : Nat → Int) : yCs n y = ((List.range n).map y).map D.int := by unfold yCs; rw [List.map_map]; rfl
end Go.Proofs.YtlkpikdfbodhoaaDoor
/- The closure does not depend on the order of the claims: rotations; one more claim; places; remainders. -/
namespace Go.Proofs.YtlkpikdfbodhoaaDoor
open Go Go.Em Go.Em.Net
set_option maxRecDepth 100000
theorem ix_place {v : Int} : ∀ {M : List Int} {i : Nat}, v ∈ M → ixP (· == v) i M = ((i + placeF M v : Nat) : Int)
  | [], _, h => absurd h List.not_mem_nil
  | a :: M, i, h => by
    unfold ixP placeF
    rw [List.idxOf_cons]
    by_cases e : a = v
    · subst e; simp
    · have e' : (a == v) = false := by simpa using e
      have hv : v ∈ M := by
        rcases List.mem_cons.1 h with h | h
        · exact absurd h.symm e
        · exact h
      have := ix_place (i := i + 1) hv
      unfold placeF at this
      simp only [e', Bool.false_eq_true, if_false, cond_false]
      rw [this]
      congr 1
      omega
end Go.Proofs.YtlkpikdfbodhoaaDoor
