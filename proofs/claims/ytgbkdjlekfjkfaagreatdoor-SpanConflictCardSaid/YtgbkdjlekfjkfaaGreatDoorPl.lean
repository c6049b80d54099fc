/- The place of a mark that may not be there. -/
import Derived.Test.YtgbkdjlekfjkfaaGreatDoorKp1
import Derived.Test.YtgbkdjlekfjkfaaGreatDoorMul
import Derived.Test.YtgbkdjlekfjkfaaGreatDoorEmNet
namespace Go.Proofs.YtgbkdjlekfjkfaaGreatDoor
open Go Go.Em
set_option maxRecDepth 100000
end Go.Proofs.YtgbkdjlekfjkfaaGreatDoor
/- The closure of claims between two marks, by the program. -/
namespace Go.Proofs.YtgbkdjlekfjkfaaGreatDoor
open Go Go.Em Go.Em.Net
set_option maxRecDepth 100000
end Go.Proofs.YtgbkdjlekfjkfaaGreatDoor
/- Bounds, by the program. -/
namespace Go.Proofs.YtgbkdjlekfjkfaaGreatDoor
open Go Go.Em Go.Em.Net
set_option maxRecDepth 100000
end Go.Proofs.YtgbkdjlekfjkfaaGreatDoor
/- The closure of claims: it does not depend on their order, and no bound grows with more of them. -/
namespace Go.Proofs.YtgbkdjlekfjkfaaGreatDoor
open Go Go.Em Go.Em.Net
theorem rise_len : ∀ (m l : List Int), Rise l → Rise m → (∀ x, x ∈ l → x ∈ m) → l.length ≤ m.length
  | _, [], _, _, _ => Nat.zero_le _
  | [], a :: l, _, _, h => absurd (h a List.mem_cons_self) List.not_mem_nil
  | b :: m, a :: l, hl, hm, h => by
    have hl' := List.pairwise_cons.1 hl
    have hm' := List.pairwise_cons.1 hm
    rw [List.length_cons, List.length_cons]
    by_cases e : a = b
    · subst e
      have := rise_len m l hl'.2 hm'.2 fun x hx => by
        have h1 := hl'.1 x hx
        rcases List.mem_cons.1 (h x (List.mem_cons_of_mem _ hx)) with rfl | h2
        · omega
        · exact h2
      omega
    · have ha : a ∈ m := by
        rcases List.mem_cons.1 (h a List.mem_cons_self) with e' | h2
        · exact absurd e' e
        · exact h2
      have hba := hm'.1 a ha
      have := rise_len m (a :: l) hl hm'.2 fun x hx => by
        rcases List.mem_cons.1 (h x hx) with rfl | h2
        · rcases List.mem_cons.1 hx with rfl | hx
          · omega
          · have := hl'.1 _ hx; omega
        · exact h2
      rw [List.length_cons] at this
      omega
theorem marks_sub {l x : List Clm} (h : ∀ c, c ∈ l → c ∈ x) : ∀ v, v ∈ marksF l → v ∈ marksF x := by
  intro v hv
  obtain ⟨c, hc, e⟩ := (marks_mem l v).1 hv
  exact (marks_mem x v).2 ⟨c, h c hc, e⟩
theorem chk_zero {l : List Clm} (h1 : l.length ≤ 400) (h2 : ∀ c ∈ l, okF c = true) (h3 : (marksF l).length ≤ 64) : chkF l = 0 := by
  unfold chkF
  rw [if_neg (by omega), if_pos (List.all_eq_true.2 h2), if_neg (by omega)]
theorem chk_sub {l x : List Clm} (hl : l.length ≤ x.length) (h : ∀ c, c ∈ l → c ∈ x) (h0 : chkF x = 0) : chkF l = 0 := by
  obtain ⟨h1, h2, h3⟩ := chk_ok h0
  have := rise_len _ _ (marks_rise l) (marks_rise x) (marks_sub h)
  exact chk_zero (by omega) (fun c hc => h2 c (h c hc)) (by omega)
theorem clo_clsd {l : List Clm} (h0 : chkF l = 0) (hb : badF l = false) : Clsd (marksF l).length (cloF l) := by
  have hd := (bad_iff h0).1 hb
  refine ⟨fun i hi => hd _ (Nat.le_refl _) i hi, fun hl ha hb' => fw_closed _ (fun q hq => hd q (by omega) q hq) hl ha hb', fun h => fw_sym (good_movs h0).symE _ h⟩
theorem clo_out {l : List Clm} (h0 : chkF l = 0) : Out (marksF l).length (cloF l) := Out.fw (kn_EF (good_movs h0).hin).out _ (Nat.le_refl _)
theorem enc_some {N : Mx} {a b : Nat} {z : Int} (h : N a b = some z) : encM N a b = z := by simp [encM, enc, h]
theorem clo_small {l : List Clm} (h0 : chkF l = 0) (hb : badF l = false) : Bt (cloF l) := (good_movs h0).calm (chk_ok h0).2.2 ((bad_iff h0).1 hb) _ (Nat.le_refl _)
end Go.Proofs.YtgbkdjlekfjkfaaGreatDoor
/- Years that are given to marks one after the other, each within the room that the bounds leave it: mathematics. -/
namespace Go.Proofs.YtgbkdjlekfjkfaaGreatDoor
open Go Go.Em Go.Em.Net
def roomI (A : Nat → Nat → Int) (dt : Nat → Bool) (y : Nat → Int) (i : Nat) : Nat → Int × Int × Bool
  | 0 => (-1000000000, 1000000000, true)
  | J + 1 => if dt J = true ∧ A i J ≠ 1000000000 then (max (roomI A dt y i J).1 (y J - A i J), min (roomI A dt y i J).2.1 (y J + A J i), false) else roomI A dt y i J
theorem room_free {A : Nat → Nat → Int} {dt : Nat → Bool} {y : Nat → Int} {i : Nat} : ∀ {n : Nat}, (roomI A dt y i n).2.2 = true ↔ ∀ j, j < n → dt j = true → A i j = 1000000000
  | 0 => ⟨fun _ j h => absurd h (Nat.not_lt_zero j), fun _ => rfl⟩
  | n + 1 => by
    unfold roomI
    split
    · rename_i h
      constructor
      · intro e; cases e
      · intro e; exact absurd (e n (Nat.lt_succ_self n) h.1) h.2
    · rename_i h
      rw [room_free]
      constructor
      · intro e j hj hd
        rcases Nat.lt_or_eq_of_le (Nat.le_of_lt_succ hj) with h1 | h1
        · exact e j h1 hd
        · subst h1
          exact Decidable.byContradiction fun hn => h ⟨hd, hn⟩
      · intro e j hj hd; exact e j (by omega) hd
theorem room_lo {A : Nat → Nat → Int} {dt : Nat → Bool} {y : Nat → Int} {i : Nat} {v : Int} : ∀ {n : Nat}, (roomI A dt y i n).1 ≤ v ↔ -1000000000 ≤ v ∧ ∀ j, j < n → dt j = true → A i j ≠ 1000000000 → y j - A i j ≤ v
  | 0 => ⟨fun h => ⟨h, fun j h => absurd h (Nat.not_lt_zero j)⟩, fun h => h.1⟩
  | n + 1 => by
    unfold roomI
    split
    · rename_i h
      show max (roomI A dt y i n).1 (y n - A i n) ≤ v ↔ _
      rw [Int.max_le, room_lo]
      constructor
      · rintro ⟨⟨a, b⟩, c⟩
        refine ⟨a, fun j hj hd hf => ?_⟩
        rcases Nat.lt_or_eq_of_le (Nat.le_of_lt_succ hj) with h1 | h1
        · exact b j h1 hd hf
        · subst h1; exact c
      · rintro ⟨a, b⟩
        exact ⟨⟨a, fun j hj => b j (by omega)⟩, b n (Nat.lt_succ_self n) h.1 h.2⟩
    · rename_i h
      rw [room_lo]
      constructor
      · rintro ⟨a, b⟩
        refine ⟨a, fun j hj hd hf => ?_⟩
        rcases Nat.lt_or_eq_of_le (Nat.le_of_lt_succ hj) with h1 | h1
        · exact b j h1 hd hf
        · subst h1; exact absurd ⟨hd, hf⟩ h
      · rintro ⟨a, b⟩
        exact ⟨a, fun j hj => b j (by omega)⟩
theorem room_hi {A : Nat → Nat → Int} {dt : Nat → Bool} {y : Nat → Int} {i : Nat} {v : Int} : ∀ {n : Nat}, v ≤ (roomI A dt y i n).2.1 ↔ v ≤ 1000000000 ∧ ∀ j, j < n → dt j = true → A i j ≠ 1000000000 → v ≤ y j + A j i
  | 0 => ⟨fun h => ⟨h, fun j h => absurd h (Nat.not_lt_zero j)⟩, fun h => h.1⟩
  | n + 1 => by
    unfold roomI
    split
    · rename_i h
      show v ≤ min (roomI A dt y i n).2.1 (y n + A n i) ↔ _
      rw [Int.le_min, room_hi]
      constructor
      · rintro ⟨⟨a, b⟩, c⟩
        refine ⟨a, fun j hj hd hf => ?_⟩
        rcases Nat.lt_or_eq_of_le (Nat.le_of_lt_succ hj) with h1 | h1
        · exact b j h1 hd hf
        · subst h1; exact c
      · rintro ⟨a, b⟩
        exact ⟨⟨a, fun j hj => b j (by omega)⟩, b n (Nat.lt_succ_self n) h.1 h.2⟩
    · rename_i h
      rw [room_hi]
      constructor
      · rintro ⟨a, b⟩
        refine ⟨a, fun j hj hd hf => ?_⟩
        rcases Nat.lt_or_eq_of_le (Nat.le_of_lt_succ hj) with h1 | h1
        · exact b j h1 hd hf
        · subst h1; exact absurd ⟨hd, hf⟩ h
      · rintro ⟨a, b⟩
        exact ⟨a, fun j hj => b j (by omega)⟩
structure FOk (n : Nat) (N : Mx) (dt : Nat → Bool) (y : Nat → Int) : Prop where
  kept : Kept N dt y
  root : ∀ j, j < n → dt j = true → ∃ r, r < n ∧ dt r = true ∧ N r j ≠ none ∧ -100000000 ≤ y r ∧ y r ≤ 100000000
theorem FOk.bd {n : Nat} {N : Mx} {dt : Nat → Bool} {y : Nat → Int} (f : FOk n N dt y) (h : Clsd n N) (hb : Bt N) {j : Nat} (hj : j < n) (hd : dt j = true) : -200000000 ≤ y j ∧ y j ≤ 200000000 := by
  obtain ⟨r, hr, h1, h2, h3, h4⟩ := f.root j hj hd
  obtain ⟨c, hc⟩ := Option.ne_none_iff_exists'.1 h2
  obtain ⟨d, hd'⟩ := Option.ne_none_iff_exists'.1 (h.sym h2)
  have a1 := f.kept r j c h1 hd hc
  have a2 := f.kept j r d hd h1 hd'
  have a3 := hb _ _ _ hc
  have a4 := hb _ _ _ hd'
  omega
theorem far_iff {N : Mx} (h : Bt N) {a b : Nat} : encM N a b = 1000000000 ↔ N a b = none := enc_far h

theorem FOk.free {n : Nat} {N : Mx} {dt : Nat → Bool} {y : Nat → Int} (f : FOk n N dt y) (h : Clsd n N) (hb : Bt N) {i : Nat} (hi : i < n) (hd : dt i = false) (hout : Out n N) (hf : (roomI (encM N) dt y i n).2.2 = true) : FOk n N (fun q => if q = i then true else dt q) (fun q => if q = i then 0 else y q) := by
  have hno : ∀ j, dt j = true → N i j = none := fun j hj => by
    by_cases hjn : j < n
    · exact (far_iff hb).1 (room_free.1 hf j hjn hj)
    · exact hout i j (by omega)
  refine ⟨h.put f.kept hi (fun j a hj ha => by rw [hno j hj] at ha; cases ha) (fun j b hj hb' => ?_) hd, fun j hj hdj => ?_⟩
  · have := h.sym (show N j i ≠ none by rw [hb']; simp)
    exact absurd (hno j hj) this
  · by_cases e : j = i
    · subst e
      exact ⟨j, hj, by simp, by rw [h.diag j hj]; simp, by simp, by simp⟩
    · simp only [e, if_false] at hdj
      obtain ⟨r, h1, h2, h3, h4, h5⟩ := f.root j hj hdj
      have hri : r ≠ i := fun e => by subst e; rw [hd] at h2; cases h2
      exact ⟨r, h1, by simp [h2], h3, by simp [hri, h4], by simp [hri, h5]⟩
theorem FOk.tied {n : Nat} {N : Mx} {dt : Nat → Bool} {y : Nat → Int} (f : FOk n N dt y) (h : Clsd n N) (hb : Bt N) {i : Nat} (hi : i < n) (hd : dt i = false) (hout : Out n N) (hf : (roomI (encM N) dt y i n).2.2 = false) :
    (roomI (encM N) dt y i n).1 ≤ (roomI (encM N) dt y i n).2.1 ∧ -300000000 ≤ (roomI (encM N) dt y i n).1 ∧ (roomI (encM N) dt y i n).2.1 ≤ 300000000 ∧
      ∀ v, (roomI (encM N) dt y i n).1 ≤ v → v ≤ (roomI (encM N) dt y i n).2.1 → FOk n N (fun q => if q = i then true else dt q) (fun q => if q = i then v else y q) := by
  have hex : ∃ j, j < n ∧ dt j = true ∧ N i j ≠ none := by
    apply Decidable.byContradiction
    intro hno
    have : (roomI (encM N) dt y i n).2.2 = true := room_free.2 fun j hj hdj => (far_iff hb).2 (Decidable.byContradiction fun hn => hno ⟨j, hj, hdj, hn⟩)
    rw [hf] at this; cases this
  obtain ⟨j0, hj0, hd0, hn0⟩ := hex
  obtain ⟨a0, ha0⟩ := Option.ne_none_iff_exists'.1 hn0
  obtain ⟨b0, hb0⟩ := Option.ne_none_iff_exists'.1 (h.sym hn0)
  have lo0 : y j0 - a0 ≤ (roomI (encM N) dt y i n).1 := by
    have := (room_lo (A := encM N) (dt := dt) (y := y) (i := i) (n := n) (v := (roomI (encM N) dt y i n).1)).1 (Int.le_refl _)
    have := this.2 j0 hj0 hd0 (fun e => hn0 ((far_iff hb).1 e))
    rwa [enc_some ha0] at this
  have hi0 : (roomI (encM N) dt y i n).2.1 ≤ y j0 + b0 := by
    have := (room_hi (A := encM N) (dt := dt) (y := y) (i := i) (n := n) (v := (roomI (encM N) dt y i n).2.1)).1 (Int.le_refl _)
    have := this.2 j0 hj0 hd0 (fun e => hn0 ((far_iff hb).1 e))
    rwa [enc_some hb0] at this
  have hy0 := f.bd h hb hj0 hd0
  have ba := hb _ _ _ ha0
  have bb := hb _ _ _ hb0
  have hle : (roomI (encM N) dt y i n).1 ≤ (roomI (encM N) dt y i n).2.1 := by
    rw [room_lo]
    refine ⟨?_, fun j hj hdj hfj => ?_⟩
    · rw [room_hi]
      refine ⟨by omega, fun k hk hdk hfk => ?_⟩
      have hnk : N i k ≠ none := fun e => hfk ((far_iff hb).2 e)
      obtain ⟨bk, hbk⟩ := Option.ne_none_iff_exists'.1 (h.sym hnk)
      rw [enc_some hbk]
      have := f.bd h hb hk hdk
      have := hb _ _ _ hbk
      omega
    · have hnj : N i j ≠ none := fun e => hfj ((far_iff hb).2 e)
      obtain ⟨aj, haj⟩ := Option.ne_none_iff_exists'.1 hnj
      rw [enc_some haj, room_hi]
      have hyj := f.bd h hb hj hdj
      have := hb _ _ _ haj
      refine ⟨by omega, fun k hk hdk hfk => ?_⟩
      have hnk : N i k ≠ none := fun e => hfk ((far_iff hb).2 e)
      obtain ⟨bk, hbk⟩ := Option.ne_none_iff_exists'.1 (h.sym hnk)
      rw [enc_some hbk]
      exact h.room f.kept hi hdj hdk haj hbk
  refine ⟨hle, by omega, by omega, fun v hv1 hv2 => ⟨h.put f.kept hi (fun j a hj ha => ?_) (fun j b hj hb' => ?_) hd, fun j hj hdj => ?_⟩⟩
  · have hjn : j < n := Decidable.byContradiction fun hn => by rw [hout i j (by omega)] at ha; cases ha
    have := (room_lo.1 hv1).2 j hjn hj (fun e => by rw [(far_iff hb).1 e] at ha; cases ha)
    rwa [enc_some ha] at this
  · have hjn : j < n := Decidable.byContradiction fun hn => by rw [hout j i (by omega)] at hb'; cases hb'
    have hnn : N i j ≠ none := h.sym (by rw [hb']; simp)
    have := (room_hi.1 hv2).2 j hjn hj (fun e => hnn ((far_iff hb).1 e))
    rwa [enc_some hb'] at this
  · by_cases e : j = i
    · subst e
      obtain ⟨r, h1, h2, h3, h4, h5⟩ := f.root j0 hj0 hd0
      have hri : r ≠ j := fun e => by subst e; rw [hd] at h2; cases h2
      obtain ⟨c, hc⟩ := Option.ne_none_iff_exists'.1 h3
      obtain ⟨z, hz, _⟩ := h.via hj0 hc hb0
      exact ⟨r, h1, by simp [h2], by rw [hz]; simp, by simp [hri, h4], by simp [hri, h5]⟩
    · simp only [e, if_false] at hdj
      obtain ⟨r, h1, h2, h3, h4, h5⟩ := f.root j hj hdj
      have hri : r ≠ i := fun e => by subst e; rw [hd] at h2; cases h2
      exact ⟨r, h1, by simp [h2], h3, by simp [hri, h4], by simp [hri, h5]⟩
/-! ### All marks in turn -/
def pickI (p : List Int) (t : Nat) (c : Int) : Int := if p = [] ∨ c < 1 then 0 else p.getD (t % p.length) 0 % c
theorem pick_in (p : List Int) (t : Nat) {c : Int} (hc : 1 ≤ c) : 0 ≤ pickI p t c ∧ pickI p t c < c := by
  unfold pickI
  split
  · omega
  · exact ⟨Int.emod_nonneg _ (by omega), Int.emod_lt_of_pos _ (by omega)⟩
structure Fs where
  dt : Nat → Bool
  y : Nat → Int
  t : Nat
def Fs.put (s : Fs) (i : Nat) (v : Int) (t : Nat) : Fs := ⟨fun q => if q = i then true else s.dt q, fun q => if q = i then v else s.y q, t⟩
def fillS (A : Nat → Nat → Int) (n : Nat) (p : List Int) (s : Fs) (i : Nat) : Fs :=
  if s.dt i = true then s
  else if (roomI A s.dt s.y i n).2.2 = true then s.put i 0 s.t
  else s.put i ((roomI A s.dt s.y i n).1 + pickI p s.t ((roomI A s.dt s.y i n).2.1 - (roomI A s.dt s.y i n).1 + 1)) (s.t + 1)
def fillN (A : Nat → Nat → Int) (n : Nat) (p : List Int) (s : Fs) : Nat → Fs
  | 0 => s
  | i + 1 => fillS A n p (fillN A n p s i) i
theorem FOk.fillS {n : Nat} {N : Mx} {s : Fs} (f : FOk n N s.dt s.y) (h : Clsd n N) (hb : Bt N) (hout : Out n N) (p : List Int) {i : Nat} (hi : i < n) : FOk n N (fillS (encM N) n p s i).dt (fillS (encM N) n p s i).y ∧ (Go.Proofs.YtgbkdjlekfjkfaaGreatDoor.fillS (encM N) n p s i).dt i = true := by
  unfold Go.Proofs.YtgbkdjlekfjkfaaGreatDoor.fillS
  split
  · rename_i h1; exact ⟨f, h1⟩
  · rename_i h1
    have h1 : s.dt i = false := by simpa using h1
    split
    · rename_i h2
      exact ⟨f.free h hb hi h1 hout h2, by simp [Fs.put]⟩
    · rename_i h2
      obtain ⟨a1, a2, a3, a4⟩ := f.tied h hb hi h1 hout (by simpa using h2)
      obtain ⟨b1, b2⟩ := pick_in p s.t (c := (roomI (encM N) s.dt s.y i n).2.1 - (roomI (encM N) s.dt s.y i n).1 + 1) (by omega)
      exact ⟨a4 _ (by omega) (by omega), by simp [Fs.put]⟩
theorem fillS_ne {A : Nat → Nat → Int} {n : Nat} {p : List Int} {s : Fs} {i q : Nat} (h : q ≠ i) : (fillS A n p s i).dt q = s.dt q ∧ (fillS A n p s i).y q = s.y q := by
  unfold fillS
  split
  · exact ⟨rfl, rfl⟩
  · split <;> simp [Fs.put, h]
theorem fillS_keep {A : Nat → Nat → Int} {n : Nat} {p : List Int} {s : Fs} {i q : Nat} (h : s.dt q = true) : (fillS A n p s i).dt q = true ∧ (fillS A n p s i).y q = s.y q := by
  by_cases e : q = i
  · subst e; unfold fillS; rw [if_pos h]; exact ⟨h, rfl⟩
  · obtain ⟨a, b⟩ := fillS_ne (A := A) (n := n) (p := p) (s := s) e
    exact ⟨by rw [a, h], b⟩
theorem fillN_ok {n : Nat} {N : Mx} {s : Fs} (f : FOk n N s.dt s.y) (h : Clsd n N) (hb : Bt N) (hout : Out n N) (p : List Int) : ∀ k, k ≤ n → FOk n N (fillN (encM N) n p s k).dt (fillN (encM N) n p s k).y ∧ ∀ i, i < k → (fillN (encM N) n p s k).dt i = true
  | 0, _ => ⟨f, fun i hi => absurd hi (Nat.not_lt_zero i)⟩
  | k + 1, hk => by
    obtain ⟨a, b⟩ := fillN_ok f h hb hout p k (by omega)
    obtain ⟨c, d⟩ := FOk.fillS (s := fillN (encM N) n p s k) a h hb hout p (i := k) (by omega)
    refine ⟨c, fun i hi => ?_⟩
    rcases Nat.lt_or_eq_of_le (Nat.le_of_lt_succ hi) with e | e
    · exact (fillS_keep (b i e)).1
    · subst e; exact d
end Go.Proofs.YtgbkdjlekfjkfaaGreatDoor
/- Whether a net is closed, by the program: the closure of claims is. -/
namespace Go.Proofs.YtgbkdjlekfjkfaaGreatDoor
open Go Go.Em Go.Em.Net
set_option maxRecDepth 100000
def nD (M : List Int) (A : Nat → Nat → Int) : D := .agg [intsD M, rowsD M.length A]
theorem rows_canonL (n : Nat) (A : Nat → Nat → Int) : D.canonL ((List.range n).map fun i => D.sl false (yCs n (A i))) = true := canonL_map _ (fun i => by simp [yCs_canon]) _
theorem yCs_at {n : Nat} {y : Nat → Int} {j : Nat} (hj : j < n) (h : j < (yCs n y).length) : (yCs n y)[j]'h = D.int (y j) := Option.some.inj (by rw [← List.getElem?_eq_getElem h]; exact yCs_get hj)
theorem far_run (M : List Int) (A : Nat → Nat → Int) {i j : Nat} (hi : i < M.length) (hj : j < M.length) {n : Nat} (hn : 1 ≤ n) : pureCall (rc pg n) 61 [nD M A, D.int i, D.int j] = some (.ret (D.bool (A i j == 1000000000))) := by
  obtain ⟨m, rfl, e⟩ := body (pg := pg) (f := 61) (args := [nD M A, D.int i, D.int j]) (show 0 < n by omega) rfl rfl
  rw [e]
  have y1 := yCs_len M.length (A i)
  have g1 := fun h' => yCs_at (y := A i) hj h'
  simp [-beq_iff_eq, k61, Env.v_ini, nD, intsD, rowsD, D.cells, D.one, hi, hj, y1, g1]
end Go.Proofs.YtgbkdjlekfjkfaaGreatDoor
/- Whether a net is closed, by the program: the loops, and the answer. -/
namespace Go.Proofs.YtgbkdjlekfjkfaaGreatDoor
open Go Go.Em Go.Em.Net
set_option maxRecDepth 100000
end Go.Proofs.YtgbkdjlekfjkfaaGreatDoor
/- Whether a net is closed, by the program: the other loops, and the answer. -/
namespace Go.Proofs.YtgbkdjlekfjkfaaGreatDoor
open Go Go.Em Go.Em.Net
set_option maxRecDepth 100000
end Go.Proofs.YtgbkdjlekfjkfaaGreatDoor
/- The closure of claims, by the program's exported function; nets that are equal; claims with one more. -/
namespace Go.Proofs.YtgbkdjlekfjkfaaGreatDoor
open Go Go.Em Go.Em.Net
set_option maxRecDepth 100000
def cerF (l : List Clm) : Int := if chkF l ≠ 0 then chkF l else if badF l = true then 25 else 0
theorem cer_of {l : List Clm} (h0 : chkF l = 0) (hb : badF l = false) : cerF l = 0 := by unfold cerF; simp [h0, hb]
/-! ### Equal nets -/
end Go.Proofs.YtgbkdjlekfjkfaaGreatDoor
/- The closure does not depend on the order of the claims: rotations; one more claim; places; remainders. -/
namespace Go.Proofs.YtgbkdjlekfjkfaaGreatDoor
open Go Go.Em Go.Em.Net
set_option maxRecDepth 100000
theorem ix_place {v : Int} : ∀ {M : List Int} {i : Nat}, v ∈ M → ixP (· == v) i M = ((i + placeF M v : Nat) : Int)
  | [], _, h => absurd h List.not_mem_nil
  | a :: M, i, h => by
    unfold ixP placeF
    rw [List.idxOf_cons]
    by_cases e : a = v
    · subst e; simp
    · have e' : (a == v) = false := by simpa using e
      have hv : v ∈ M := by
        rcases List.mem_cons.1 h with h | h
        · exact absurd h.symm e
        · exact h
      have := ix_place (i := i + 1) hv
      unfold placeF at this
      simp only [e', Bool.false_eq_true, if_false, cond_false]
      rw [this]
      congr 1
      omega
end Go.Proofs.YtgbkdjlekfjkfaaGreatDoor
