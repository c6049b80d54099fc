/- One more claim: the net that grows is the closure of all claims. -/
import Derived.Test.YtppfjkebamegnaaDoorEmNet
import Derived.Test.YtppfjkebamegnaaDoorRoom
namespace Go.Proofs.YtppfjkebamegnaaDoor
open Go Go.Em Go.Em.Net
set_option maxRecDepth 100000
def rpF (M M' : List Int) (p : Nat) : Option Nat := match M'[p]? with
  | some v => if v ∈ M then some (placeF M v) else none
  | none => none
theorem rp_some {M M' : List Int} {p i : Nat} (h : rpF M M' p = some i) : ∃ v, M'[p]? = some v ∧ v ∈ M ∧ placeF M v = i := by
  unfold rpF at h
  split at h
  · rename_i v hv
    split at h
    · rename_i hm
      exact ⟨v, hv, hm, Option.some.inj h⟩
    · cases h
  · cases h
theorem rp_of {M M' : List Int} {v : Int} (h : v ∈ M) (h' : v ∈ M') : rpF M M' (placeF M' v) = some (placeF M v) := by
  obtain ⟨h1, h2⟩ := place_at h'
  unfold rpF
  rw [List.getElem?_eq_getElem h1, h2]
  simp [h]
theorem cl_clo {l : List Clm} (h0 : chkF l = 0) (hb : badF l = false) : Cl (marksF l).length (cloF l) := by
  have c := clo_clsd h0 hb
  refine ⟨c.diag, fun {i q j a b} h1 h2 => c.via ?_ h1 h2, clo_out h0⟩
  exact Decidable.byContradiction fun hn => by rw [clo_out h0 i q (by omega)] at h1; cases h1
def gW (l x : List Clm) : Mx := Ext (marksF x).length (rpF (marksF l) (marksF x)) (cloF l)
theorem cl_gW {l x : List Clm} (h0 : chkF l = 0) (hb : badF l = false) : Cl (marksF x).length (gW l x) := (cl_clo h0 hb).ext
theorem gW_le {l x : List Clm} (h0 : chkF l = 0) (h1 : chkF x = 0) (h : ∀ c, c ∈ l → c ∈ x) (hb : badF x = false) : LeM (cloF x) (gW l x) := fun p q z hz => by
  have c := cl_clo h1 hb
  have hpq : p < (marksF x).length ∧ q < (marksF x).length := Decidable.byContradiction fun hn => by rw [show gW l x p q = none from Ext_out _ _ _ p q hn] at hz; cases hz
  rcases Ext_or hz with ⟨rfl, rfl⟩ | ⟨_, i, j, e1, e2, e3⟩
  · exact ⟨0, c.diag p hpq.1, Int.le_refl _⟩
  · obtain ⟨d, h2, h3⟩ := clo_sub h0 h1 h hb e3
    have up : ∀ {p i : Nat}, p < (marksF x).length → rpF (marksF l) (marksF x) p = some i → upF l x i = p := fun {p i} hp e => by
      obtain ⟨v, k1, k2, k3⟩ := rp_some e
      rw [← k3, up_place k2]
      have := place_self (marks_rise x) hp
      rw [List.getElem?_eq_getElem hp] at k1
      rwa [Option.some.inj k1] at this
    rw [up hpq.1 e1, up hpq.2 e2] at h2
    exact ⟨d, h2, h3⟩
theorem clo_net {l : List Clm} : LeM (cloF l) (netF l) := fun i j c h => by
  obtain ⟨z, h1, h2⟩ := fw_mono (E := netF l) 0 (marksF l).length (show fw (netF l) 0 i j = some c from h)
  rw [Nat.zero_add] at h1
  exact ⟨z, h1, h2⟩
theorem net_hi {x : List Clm} (h1 : chkF x = 0) {c : Clm} (hc : c ∈ x) : ∃ y, netF x (placeF (marksF x) c.a) (placeF (marksF x) c.b) = some y ∧ y ≤ c.hi :=
  (kn_EF (good_movs h1).hin).hm _ (mvs_mem.2 ⟨c, hc, .inl rfl⟩)
theorem net_lo {x : List Clm} (h1 : chkF x = 0) {c : Clm} (hc : c ∈ x) : ∃ y, netF x (placeF (marksF x) c.b) (placeF (marksF x) c.a) = some y ∧ y ≤ -c.lo :=
  (kn_EF (good_movs h1).hin).hm _ (mvs_mem.2 ⟨c, hc, .inr rfl⟩)
theorem mem_marks {x : List Clm} {c : Clm} (hc : c ∈ x) : c.a ∈ marksF x ∧ c.b ∈ marksF x := ⟨(marks_mem x _).2 ⟨c, hc, .inl rfl⟩, (marks_mem x _).2 ⟨c, hc, .inr rfl⟩⟩
theorem gF_net {l : List Clm} {c : Clm} (h0 : chkF l = 0) (hb : badF l = false) (h1 : chkF (l ++ [c]) = 0) (ft : Fit (marksF (l ++ [c])).length (gW l (l ++ [c])) (placeF (marksF (l ++ [c])) c.a) (placeF (marksF (l ++ [c])) c.b) c.hi (-c.lo)) : LeM (Fw (gW l (l ++ [c])) (placeF (marksF (l ++ [c])) c.a) (placeF (marksF (l ++ [c])) c.b) c.hi (-c.lo)) (netF (l ++ [c])) := fun i j w hw => by
  have k := kn_EF (good_movs h1).hin
  have hij : i < (marksF (l ++ [c])).length ∧ j < (marksF (l ++ [c])).length := Decidable.byContradiction fun hn => by unfold netF at hw; rw [k.out i j hn] at hw; cases hw
  obtain ⟨_, l2, l3⟩ := ft.le_net
  rcases k.he i j w hw with ⟨rfl, rfl⟩ | hm
  · exact ⟨0, ft.closed.diag i hij.1, Int.le_refl _⟩
  · obtain ⟨q, hq, e⟩ := mvs_mem.1 hm
    rcases List.mem_append.1 hq with hl | hl
    · have hmq := mem_marks hl
      have hmx := mem_marks (x := l ++ [c]) (List.mem_append_left _ hl)
      have c1 := cl_clo h0 hb
      have w1 : ∀ {u v : Int} {y z : Int}, u ∈ marksF l → v ∈ marksF l → u ∈ marksF (l ++ [c]) → v ∈ marksF (l ++ [c]) → netF l (placeF (marksF l) u) (placeF (marksF l) v) = some y → y ≤ z → ∃ t, Fw (gW l (l ++ [c])) (placeF (marksF (l ++ [c])) c.a) (placeF (marksF (l ++ [c])) c.b) c.hi (-c.lo) (placeF (marksF (l ++ [c])) u) (placeF (marksF (l ++ [c])) v) = some t ∧ t ≤ z := fun {u v y z} m1 m2 m3 m4 g1 g2 => by
        obtain ⟨y', g3, g4⟩ := clo_net _ _ _ g1
        obtain ⟨t, g5, g6⟩ := Ext_of (r := rpF (marksF l) (marksF (l ++ [c]))) c1 (place_at m3).1 (place_at m4).1 (rp_of m1 m3) (rp_of m2 m4) g3
        obtain ⟨s, g7, g8⟩ := Fw_w (W := gW l (l ++ [c])) (a := placeF (marksF (l ++ [c])) c.a) (b := placeF (marksF (l ++ [c])) c.b) (e := c.hi) (f := -c.lo) g5
        exact ⟨s, g7, by omega⟩
      rcases e with e | e
      · obtain ⟨e1, e2⟩ := Prod.mk.inj e
        obtain ⟨e2, e3⟩ := Prod.mk.inj e2
        obtain ⟨y, g1, g2⟩ := net_hi h0 hl
        rw [e1, e2, e3]
        exact w1 hmq.1 hmq.2 hmx.1 hmx.2 g1 g2
      · obtain ⟨e1, e2⟩ := Prod.mk.inj e
        obtain ⟨e2, e3⟩ := Prod.mk.inj e2
        obtain ⟨y, g1, g2⟩ := net_lo h0 hl
        rw [e1, e2, e3]
        exact w1 hmq.2 hmq.1 hmx.2 hmx.1 g1 g2
    · obtain rfl : q = c := by simpa using hl
      rcases e with e | e
      · obtain ⟨e1, e2⟩ := Prod.mk.inj e
        obtain ⟨e2, e3⟩ := Prod.mk.inj e2
        rw [e1, e2, e3]; exact l2
      · obtain ⟨e1, e2⟩ := Prod.mk.inj e
        obtain ⟨e2, e3⟩ := Prod.mk.inj e2
        rw [e1, e2, e3]; exact l3
def Fits (l : List Clm) (c : Clm) : Prop := (∀ z, gW l (l ++ [c]) (placeF (marksF (l ++ [c])) c.b) (placeF (marksF (l ++ [c])) c.a) = some z → 0 ≤ z + c.hi) ∧ (∀ z, gW l (l ++ [c]) (placeF (marksF (l ++ [c])) c.a) (placeF (marksF (l ++ [c])) c.b) = some z → 0 ≤ z + -c.lo)
theorem last_ok {l : List Clm} {c : Clm} (h1 : chkF (l ++ [c]) = 0) : okF c = true := (chk_ok h1).2.1 c (List.mem_append_right _ List.mem_cons_self)
theorem fit_of {l : List Clm} {c : Clm} (h0 : chkF l = 0) (hb : badF l = false) (h1 : chkF (l ++ [c]) = 0) (h : Fits l c) : Fit (marksF (l ++ [c])).length (gW l (l ++ [c])) (placeF (marksF (l ++ [c])) c.a) (placeF (marksF (l ++ [c])) c.b) c.hi (-c.lo) := by
  have hm := mem_marks (x := l ++ [c]) (List.mem_append_right l (List.mem_cons_self (a := c)))
  have hk := last_ok h1
  have hlo : c.lo ≤ c.hi := by
    have := ok_years hk
    omega
  refine ⟨cl_gW h0 hb, (place_at hm.1).1, (place_at hm.2).1, fun e => ok_differ hk ?_, by omega, h.1, h.2⟩
  have e1 := (place_at hm.1).2
  have e2 := (place_at hm.2).2
  simp only [e] at e1
  exact e1.symm.trans e2
theorem fits_ok {l : List Clm} {c : Clm} (h0 : chkF l = 0) (hb : badF l = false) (h1 : chkF (l ++ [c]) = 0) (h : Fits l c) : badF (l ++ [c]) = false := by
  have ft := fit_of h0 hb h1 h
  refine (bad_iff h1).2 fun k _ i hi => ?_
  obtain ⟨z, g1, g2⟩ := fw_mono (E := netF (l ++ [c])) 0 k (show fw (netF (l ++ [c])) 0 i i = some 0 from (kn_EF (good_movs h1).hin).diag i hi)
  rw [Nat.zero_add] at g1
  obtain ⟨y, g3, g4⟩ := ft.closed.fw (gF_net h0 hb h1 ft) k i i z g1
  rw [ft.closed.diag i hi] at g3
  have := Option.some.inj g3
  rw [g1]; congr 1; omega
theorem ok_fits {l : List Clm} {c : Clm} (h0 : chkF l = 0) (h1 : chkF (l ++ [c]) = 0) (hb : badF (l ++ [c]) = false) : Fits l c := by
  have hsub : ∀ q, q ∈ l → q ∈ l ++ [c] := fun q hq => List.mem_append_left _ hq
  have hc : c ∈ l ++ [c] := List.mem_append_right l List.mem_cons_self
  have hm := mem_marks hc
  have cx := cl_clo h1 hb
  have le := gW_le h0 h1 hsub hb
  have key : ∀ {p q : Nat} {z w : Int}, p < (marksF (l ++ [c])).length → gW l (l ++ [c]) p q = some z → (∃ y, netF (l ++ [c]) q p = some y ∧ y ≤ w) → 0 ≤ z + w := fun {p q z w} hp e1 e2 => by
    obtain ⟨y, g1, g2⟩ := le _ _ _ e1
    obtain ⟨v, g3, g4⟩ := e2
    obtain ⟨u, g5, g6⟩ := clo_net _ _ _ g3
    obtain ⟨t, g7, g8⟩ := cx.via g1 g5
    rw [cx.diag p hp] at g7
    have := Option.some.inj g7
    omega
  exact ⟨fun z hz => key (place_at hm.2).1 hz (net_hi h1 hc), fun z hz => key (place_at hm.1).1 hz (net_lo h1 hc)⟩
theorem grow_clo {l : List Clm} {c : Clm} (h0 : chkF l = 0) (h1 : chkF (l ++ [c]) = 0) (hb : badF (l ++ [c]) = false) : comb (comb (Lw (gW l (l ++ [c])) (placeF (marksF (l ++ [c])) c.a) (placeF (marksF (l ++ [c])) c.b) c.hi (-c.lo)) (placeF (marksF (l ++ [c])) c.a)) (placeF (marksF (l ++ [c])) c.b) = cloF (l ++ [c]) := by
  have hsub : ∀ q, q ∈ l → q ∈ l ++ [c] := fun q hq => List.mem_append_left _ hq
  have hc : c ∈ l ++ [c] := List.mem_append_right l List.mem_cons_self
  have hbl := bad_sub h0 h1 hsub hb
  have ft := fit_of h0 hbl h1 (ok_fits h0 h1 hb)
  have cx := cl_clo h1 hb
  have tr : ∀ {p q : Nat} {w : Int}, (∃ y, netF (l ++ [c]) p q = some y ∧ y ≤ w) → ∃ y, cloF (l ++ [c]) p q = some y ∧ y ≤ w := fun {p q w} e => by
    obtain ⟨v, g3, g4⟩ := e
    obtain ⟨u, g5, g6⟩ := clo_net _ _ _ g3
    exact ⟨u, g5, by omega⟩
  rw [ft.over]
  refine LeM.anti (ft.closed.fw (gF_net h0 hbl h1 ft) _) (ft.most cx (gW_le h0 h1 hsub hb) (tr (net_hi h1 hc)) (tr (net_lo h1 hc)))
end Go.Proofs.YtppfjkebamegnaaDoor
/- A net with further marks, and over one of them: the program's numbers. -/
namespace Go.Proofs.YtppfjkebamegnaaDoor
open Go Go.Em Go.Em.Net
set_option maxRecDepth 100000
theorem lowV_O : lowV = lowO := by funext o v; cases o <;> rfl
theorem Lw_low (W : Mx) {a b : Nat} (hne : a ≠ b) (e f : Int) : Lw W a b e f = lowM (lowM W ⟨0, false, a, b, e⟩) ⟨0, true, b, a, f⟩ := by
  have : (setM W a b (lowO (W a b) e)) b a = W b a := if_neg fun k => hne k.1.symm
  unfold lowM Lw
  simp only [lowV_O, this]
theorem comb_bd {N : Mx} {B : Int} (h : ∀ i j z, N i j = some z → -B ≤ z ∧ z ≤ B) (hB : 0 ≤ B) {k i j : Nat} {z : Int} (e : comb N k i j = some z) : -(2 * B) ≤ z ∧ z ≤ 2 * B := by
  rcases comb_or e with e | ⟨a, b, e1, e2, rfl⟩
  · have := h _ _ _ e; omega
  · have := h _ _ _ e1
    have := h _ _ _ e2
    omega
theorem tame1 {n k : Nat} {N : Mx} (hk : N k k = some 0) (ho : Out n N) (hkn : k < n) (h1 : Bt N) (h2 : Bt (comb N k)) : (∀ I, I < n → stageI n k (encM N) I I k ≠ 1000000000 → ∀ J, J ≤ n → ∀ a b, -1000000000000 ≤ rowI k I (stageI n k (encM N) I) J a b ∧ rowI k I (stageI n k (encM N) I) J a b ≤ 1000000000000) ∧ stageI n k (encM N) n = encM (comb N k) := by
  refine ⟨fun I hI => ?_, ?_⟩
  · obtain ⟨e, b1, b2, b3, b4⟩ := stageI_enc hk ho hkn h1 h2 I
    rw [e]
    intro hne J _ a b
    cases hc : stageT n k N I I k with
    | none => exact absurd ((enc_far b1).2 hc) hne
    | some c =>
      obtain ⟨e2, b5⟩ := rowI_enc b2 hc b1 (b4 c hc) J
      rw [e2]
      exact enc_bd b5 a b
  · rw [(stageI_enc hk ho hkn h1 h2 n).1, stage_full hk ho hkn]
def wA (M M' : List Int) (A : Nat → Nat → Int) (i j : Nat) : Nat → Nat → Int := fun p q => match rpF M M' p, rpF M M' q with
  | some i', some j' => if i' < i ∨ (i' = i ∧ j' < j) then A i' j' else far0 p q
  | _, _ => far0 p q
theorem wA_zero (M M' : List Int) (A : Nat → Nat → Int) : wA M M' A 0 0 = far0 := by
  funext p q
  unfold wA
  split
  · rw [if_neg (by omega)]
  · rfl
theorem rp_lt {M M' : List Int} {p i : Nat} (h : rpF M M' p = some i) : i < M.length := by
  obtain ⟨v, _, h2, h3⟩ := rp_some h
  rw [← h3]; exact (place_at h2).1
theorem wA_row (M M' : List Int) (A : Nat → Nat → Int) (i : Nat) : wA M M' A i M.length = wA M M' A (i + 1) 0 := by
  funext p q
  unfold wA
  split
  · rename_i i' j' _ h2
    have := rp_lt h2
    by_cases h : i' < i ∨ (i' = i ∧ j' < M.length)
    · rw [if_pos h, if_pos (by omega)]
    · rw [if_neg h, if_neg (by omega)]
  · rfl
theorem rp_back {M M' : List Int} (hM' : Rise M') {p i : Nat} (hi : i < M.length) (h : rpF M M' p = some i) : p = placeF M' M[i] := by
  obtain ⟨v, h1, h2, h3⟩ := rp_some h
  have hp : p < M'.length := Decidable.byContradiction fun hn => by rw [List.getElem?_eq_none (by omega)] at h1; cases h1
  have e : M[i] = v := by
    have := (place_at h2).2
    simpa [h3] using this
  rw [List.getElem?_eq_getElem hp] at h1
  rw [e, ← Option.some.inj h1, place_self hM' hp]
theorem wA_step {M M' : List Int} (hM : Rise M) (hM' : Rise M') (hs : ∀ v, v ∈ M → v ∈ M') (A : Nat → Nat → Int) {i j : Nat} (hi : i < M.length) (hj : j < M.length) : wA M M' A i (j + 1) = updA (wA M M' A i j) (placeF M' M[i]) (placeF M' M[j]) (A i j) := by
  funext p q
  unfold updA
  by_cases h : p = placeF M' M[i] ∧ q = placeF M' M[j]
  · rw [if_pos h]
    have e1 : rpF M M' p = some i := by rw [h.1, rp_of (List.getElem_mem hi) (hs _ (List.getElem_mem hi)), place_self hM hi]
    have e2 : rpF M M' q = some j := by rw [h.2, rp_of (List.getElem_mem hj) (hs _ (List.getElem_mem hj)), place_self hM hj]
    unfold wA
    simp only [e1, e2]
    rw [if_pos (.inr ⟨trivial, by omega⟩)]
  · rw [if_neg h]
    unfold wA
    split
    · rename_i i' j' h1 h2
      by_cases hb : i' < i ∨ (i' = i ∧ j' < j)
      · rw [if_pos (by omega), if_pos hb]
      · rw [if_neg hb, if_neg]
        rintro (g | ⟨rfl, g⟩)
        · exact hb (.inl g)
        · have : j' = j := by omega
          subst this
          exact h ⟨rp_back hM' hi h1, rp_back hM' hj h2⟩
    · rfl
theorem wA_ext {M M' : List Int} {C : Mx} (hM : Rise M) (c : Cl M.length C) {p q : Nat} (hp : p < M'.length) (hq : q < M'.length) : wA M M' (encM C) M.length 0 p q = encM (Net.Ext M'.length (rpF M M') C) p q := by
  unfold wA encM Net.Ext
  rw [if_pos ⟨hp, hq⟩]
  cases e1 : rpF M M' p with
  | none =>
    by_cases h : p = q
    · subst h; simp [far0, enc]
    · simp [far0, enc, h, Ne.symm h]
  | some i =>
    cases e2 : rpF M M' q with
    | none =>
      by_cases h : p = q
      · subst h; simp [far0, enc]
      · simp [far0, enc, h, Ne.symm h]
    | some j =>
      have hi := rp_lt e1
      simp only
      rw [if_pos (.inl hi)]
      by_cases h : p = q
      · subst h
        rw [e1] at e2
        obtain rfl := Option.some.inj e2
        rw [c.diag i hi, if_pos rfl]
      · rw [if_neg h]
end Go.Proofs.YtppfjkebamegnaaDoor
