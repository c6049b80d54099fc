/- The document's closure: one row of one round, in place. -/
import Derived.Test.YtgbkdjlekfjkfaaGreatDoorEnc4
import Derived.Test.YtgbkdjlekfjkfaaGreatDoorWo1
import Derived.Test.YtgbkdjlekfjkfaaGreatDoorPl
import Derived.Test.YtgbkdjlekfjkfaaGreatDoorBnd
namespace Go.Proofs.YtgbkdjlekfjkfaaGreatDoor
open Go Go.Em Go.Em.Net
set_option maxRecDepth 100000
structure SrH (M : List Int) (n : Nat) (B : Nat → Nat → Int) (mb b1 : Nat) (ks : List Nat) (oc : Option Nat) (h0 h : Heap) : Prop where
  mat : Mat n B mb ks h
  only : Only ks h0 h
  box : h.get b1 = some (.cells 88 [intsD M, .slr mb 0 n 1 oc])
  bn : b1 < h.next
  bk : b1 ∉ ks
  fr : h.Fr
theorem SrH.bump {M : List Int} {n : Nat} {B : Nat → Nat → Int} {mb b1 : Nat} {ks : List Nat} {oc : Option Nat} {h0 h : Heap} (t : SrH M n B mb b1 ks oc h0 h) (z : Nat) : SrH M n B mb b1 ks oc h0 (h.bump z) :=
  ⟨t.mat.bump z, t.only.bump z, by simp [t.box], by have := t.bn; simp; omega, t.bk, t.fr.bump z⟩
theorem SrH.put {M : List Int} {n : Nat} {A B : Nat → Nat → Int} {mb b1 : Nat} {ks : List Nat} {oc : Option Nat} {h0 h : Heap} (t : SrH M n A mb b1 ks oc h0 h) {i k : Nat} (hi : i < n) (hk : ∀ hj : i < ks.length, ks[i] = k) (hB : ∀ a, a ≠ i → B a = A a) : SrH M n B mb b1 ks oc h0 (h.set k (some (.cells 3 (yCs n (B i))))) := by
  have hl := t.mat.len
  have hkm : k ∈ ks := by rw [← hk (by omega)]; exact List.getElem_mem _
  have hkn := t.mat.lt k hkm
  refine ⟨t.mat.put (B := B) hi hk (by simp) (fun q hq hk => by simp [hk]) (by simp) hB, ⟨by have := t.only.1; simp; omega, fun q h1 h2 => ?_⟩, ?_, by have := t.bn; simp; omega, t.bk, t.fr.set _ hkn.1⟩
  · have : q ≠ k := fun e => h2 (by rw [e]; exact hkm)
    simp [this, t.only.2 q h1 h2]
  · have : b1 ≠ k := fun e => t.bk (by rw [e]; exact hkm)
    simp [this, t.box]
def W0 (M : List Int) (n k i : Nat) (A : Nat → Nat → Int) (mb b1 : Nat) (ks : List Nat) (oc : Option Nat) (x0 : Env 89) (h0 : Heap) (c : Nat) (s : St) : Prop := ∃ (x : Env 89) (h : Heap) (j : Nat), s = ⟨x.l, h, []⟩ ∧ j + c = n ∧ (∀ q, q < 16 → q ≠ 5 → x.v q = x0.v q) ∧ x.v 20 = D.int n ∧ x.v 21 = D.int j ∧ SrH M n (rowR k i A j) mb b1 ks oc h0 h
set_option maxHeartbeats 8000000 in
theorem row_round (M : List Int) (n k i : Nat) (hk : k < n) (hi : i < n) (hn : n ≤ 64) (A : Nat → Nat → Int) (mb b1 : Nat) (ks : List Nat) (oc : Option Nat) (x0 : Env 89) (h0 : Heap) (v1 : x0.v 1 = .ptr b1 0) (v3 : x0.v 3 = D.int k) (v4 : x0.v 4 = D.int i) (hb : ∀ J, J ≤ n → ∀ a b, -1000000000000 ≤ rowR k i A J a b ∧ rowR k i A J a b ≤ 1000000000000) :
    ∀ f, 0 ≤ f → ∀ c s, W0 M n k i A mb b1 ks oc x0 h0 c s → Res (k116l0.ev ⟨pg, 89, none⟩ (rc pg f) s) (Rnd (W0 M n k i A mb b1 ks oc x0 h0) (fun x s => x = .exit 4 ∧ W0 M n k i A mb b1 ks oc x0 h0 0 s) c) := by
  rintro f hf c s ⟨x, h, j, rfl, hjc, sm, v20, v21, hH⟩
  have u1 := sm 1 (by omega) (by omega)
  have u3 := sm 3 (by omega) (by omega)
  have u4 := sm 4 (by omega) (by omega)
  rw [v1] at u1
  rw [v3] at u3
  rw [v4] at u4
  by_cases hj : j < n
  · obtain ⟨B, hB⟩ : ∃ B, B = rowR k i A j := ⟨_, rfl⟩
    have hBn : rowR k i A (j + 1) = stR k i B j := by rw [rowR, hB]
    have hbj := hb j (by omega)
    rw [← hB] at hH hbj
    have hm := hH.mat
    have w1 : IntKind.i64.wrap ((j : Int) + 1) = (j : Int) + 1 := wrap_i64 (by omega) (by omega)
    have w2 : IntKind.i64.wrap (B i k + B k j) = B i k + B k j := by
      have := hbj i k; have := hbj k j
      exact wrap_i64 (by omega) (by omega)
    have hfr : ∀ j, h.raw (h.next + j) = none := fun j => hH.fr _ (by omega)
    have hl := hm.len
    have hbx := hH.box
    have htop := hm.top
    obtain ⟨rk, a1, a2, a3, gk⟩ := hm.at hk
    obtain ⟨ri, b1', b2, b3, gi⟩ := hm.at hi
    obtain ⟨L, hL⟩ : ∃ L, L = ks.map (rowS n) := ⟨_, rfl⟩
    rw [← hL] at htop a1 b1'
    have hLl : L.length = n := by rw [hL]; simp [hl]
    simp only [rowS] at a1 b1'
    have i1 : i + 1 ≤ n := hi
    have k1 : k + 1 ≤ n := hk
    have j1 : j + 1 ≤ n := hj
    have hyl : ∀ y : Nat → Int, (yCs n y).length = n := yCs_len n
    have hyg : ∀ (y : Nat → Int) (h' : j < (yCs n y).length), (yCs n y)[j]'h' = D.int (y j) := fun y h' => Option.some.inj (by rw [← List.getElem?_eq_getElem h']; exact yCs_get hj)
    have hyk : ∀ (y : Nat → Int) (h' : k < (yCs n y).length), (yCs n y)[k]'h' = D.int (y k) := fun y h' => Option.some.inj (by rw [← List.getElem?_eq_getElem h']; exact yCs_get hk)
    obtain ⟨V, hV⟩ : ∃ V, V = min (B i j) (B i k + B k j) := ⟨_, rfl⟩
    have hst : (yCs n (B i)).take j ++ D.int V :: (yCs n (B i)).drop (j + 1) = yCs n (updA B i j V i) := by
      have : updA B i j V i = fun b => if b = j then V else B i b := by funext b; simp [updA]
      rw [this, ← yCs_set, List.set_eq_take_append_cons_drop, if_pos (by rw [hyl]; exact hj)]
    have o1 : ∀ a b c d (e : Option Nat), D.one (.slr a b c d e) = true := fun _ _ _ _ _ => rfl
    have o2 : ∀ a : Int, D.one (.val (.int .i64 a)) = true := fun _ => rfl
    simp only [intsD] at hbx
    by_cases f1 : B i k = 1000000000
    · have f1' : (B i k != 1000000000) = false := by simpa using f1
      have hBs : stR k i B j = B := by unfold stR; rw [if_pos (.inl f1)]
      simp [-beq_iff_eq, -bne_iff_ne, -bne_eq_false_iff_eq, k116l0, u1, u3, u4, v20, v21, hj, hk, hi, f1', hbx, htop, a1, b1', gk, gi, hLl, hyl, hyg, hyk, i1, k1, j1, o1, o2, w1, D.cells]
      refine ⟨c - 1, by omega, _, _, j + 1, rfl, by omega, fun q h1 h2 => ?_, by simp [v20], by simp, ?_⟩
      · have ne : ∀ t, 16 ≤ t → (t = q) = False := fun t ht => by simp; omega
        have ne5 : (5 = q) = False := by simp; omega
        rw [← sm q h1 h2]; simp [ne, ne5]
      · rw [hBn, hBs]
        repeat' first | exact hH | apply SrH.bump
    · have f1' : (B i k != 1000000000) = true := by simpa using f1
      by_cases f2 : B k j = 1000000000
      · have f2' : (B k j != 1000000000) = false := by simpa using f2
        have hBs : stR k i B j = B := by unfold stR; rw [if_pos (.inr f2)]
        simp [-beq_iff_eq, -bne_iff_ne, -bne_eq_false_iff_eq, k116l0, u1, u3, u4, v20, v21, hj, hk, hi, f1', f2', hbx, htop, a1, b1', gk, gi, hLl, hyl, hyg, hyk, i1, k1, j1, o1, o2, w1, D.cells]
        refine ⟨c - 1, by omega, _, _, j + 1, rfl, by omega, fun q h1 h2 => ?_, by simp [v20], by simp, ?_⟩
        · have ne : ∀ t, 16 ≤ t → (t = q) = False := fun t ht => by simp; omega
          have ne5 : (5 = q) = False := by simp; omega
          rw [← sm q h1 h2]; simp [ne, ne5]
        · rw [hBn, hBs]
          repeat' first | exact hH | apply SrH.bump
      · have f2' : (B k j != 1000000000) = true := by simpa using f2
        have hBs : stR k i B j = updA B i j V := by unfold stR; rw [if_neg (fun e => e.elim f1 f2), hV]
        simp [-beq_iff_eq, -bne_iff_ne, -bne_eq_false_iff_eq, k116l0, u1, u3, u4, v20, v21, hj, hk, hi, f1', f2', hbx, htop, a1, b1', gk, gi, hLl, hyl, hyg, hyk, i1, k1, j1, o1, o2, w1, w2, ← hV, hst, D.cells]
        refine ⟨c - 1, by omega, _, _, j + 1, rfl, by omega, fun q h1 h2 => ?_, by simp [v20], by simp, ?_⟩
        · have ne : ∀ t, 16 ≤ t → (t = q) = False := fun t ht => by simp; omega
          have ne5 : (5 = q) = False := by simp; omega
          rw [← sm q h1 h2]; simp [ne, ne5]
        · rw [hBn, hBs]
          refine SrH.bump (SrH.put ((((hH.bump _).bump _).bump _).bump _) hi b3 fun a ha => ?_) _
          funext b; simp [updA, ha]
  · simp [k116l0, v20, v21, hj]
    exact ⟨_, _, j, rfl, by omega, fun q h1 h2 => by
      have ne : ∀ t, 16 ≤ t → (t = q) = False := fun t ht => by simp; omega
      rw [← sm q h1 h2]; simp [ne], by simp [v20], by simp [v21], hH.bump _⟩
end Go.Proofs.YtgbkdjlekfjkfaaGreatDoor
/- The document's closure: one round, in place. -/
namespace Go.Proofs.YtgbkdjlekfjkfaaGreatDoor
open Go Go.Em Go.Em.Net
set_option maxRecDepth 100000
theorem Res.in3 {L : Option (Ex × St)} {i1 i2 : Nat} {E F : St → Option (Ex × St)} {P Q : Ex → St → Prop} (h : Res L P) (hk : ∀ x s, P x s → Res (andThen (blockK i1 (andThen (blockK i2 (some (x, s))) E)) F) Q) : Res (andThen (blockK i1 (andThen (blockK i2 L) E)) F) Q := by
  obtain ⟨x, s, rfl, p⟩ := h; exact hk x s p
theorem comb_diag {N : Mx} {k i : Nat} (h : N i i = some 0) : comb N k i i = some 0 ∨ ∃ z, z < 0 ∧ comb N k i i = some z := by
  unfold comb
  rw [h]
  cases N i k with
  | none => exact .inl rfl
  | some a =>
    cases N k i with
    | none => exact .inl rfl
    | some b =>
      by_cases hab : a + b < 0
      · exact .inr ⟨a + b, hab, by show some (min 0 (a + b)) = some (a + b); congr 1; omega⟩
      · exact .inl (by show some (min 0 (a + b)) = some 0; congr 1; omega)
def Bad (n mb : Nat) (ks : List Nat) (h0 : Heap) (s : St) : Prop := ∃ (x : Env 89) (h : Heap), s = ⟨x.l, h, []⟩ ∧ x.v 2 = D.bool false ∧ Only ks h0 h ∧ h.Fr ∧ ∃ B, Mat n B mb ks h
def W1 (M : List Int) (n k : Nat) (N : Mx) (mb b1 : Nat) (ks : List Nat) (oc : Option Nat) (x0 : Env 89) (h0 : Heap) (c : Nat) (s : St) : Prop := ∃ (x : Env 89) (h : Heap) (i : Nat), s = ⟨x.l, h, []⟩ ∧ i + c = n ∧ (∀ q, q < 10 → q ≠ 4 → q ≠ 5 → x.v q = x0.v q) ∧ x.v 14 = D.int n ∧ x.v 15 = D.int i ∧ SrH M n (encM (stageT n k N i)) mb b1 ks oc h0 h ∧ ∀ q, q < i → comb N k q q = some 0
set_option maxHeartbeats 8000000 in
theorem stage_round (M : List Int) (n k : Nat) (hM : M.length = n) (hk : k < n) (hn : n ≤ 64) (N : Mx) (hkk : N k k = some 0) (ho : Out n N) (hB1 : Bt N) (hB2 : Bt (comb N k)) (hdg : ∀ i, i < n → N i i = some 0) (mb b1 : Nat) (ks : List Nat) (oc : Option Nat) (x0 : Env 89) (h0 : Heap) (v1 : x0.v 1 = .ptr b1 0) (v3 : x0.v 3 = D.int k) :
    ∀ f, 100 ≤ f → ∀ c s, W1 M n k N mb b1 ks oc x0 h0 c s → Res (k116l1.ev ⟨pg, 89, none⟩ (rc pg f) s) (Rnd (W1 M n k N mb b1 ks oc x0 h0) (fun x s => (x = .exit 2 ∧ W1 M n k N mb b1 ks oc x0 h0 0 s) ∨ (x = .ret ∧ Bad n mb ks h0 s ∧ ∃ i, i < n ∧ comb N k i i ≠ some 0)) c) := by
  rintro f hf c s ⟨x, h, i, rfl, hic, sm, v14, v15, hH, hz⟩
  have u1 := sm 1 (by omega) (by omega) (by omega)
  have u3 := sm 3 (by omega) (by omega) (by omega)
  rw [v1] at u1
  rw [v3] at u3
  by_cases hi : i < n
  · obtain ⟨e1, e2⟩ := stageR_row hkk ho hk hB1 hB2 i
    obtain ⟨_, s1, s2, s3, s4⟩ := stageI_enc hkk ho hk hB1 hB2 i
    have hcI : ∀ b z, comb (stageT n k N i) k i b = some z → -100000000 ≤ z ∧ z ≤ 100000000 := fun b z hz => by
      have : comb (stageT n k N i) k i b = comb N k i b := by
        rw [stageT_eq hkk ho hk i]
        show (match (if i < i then comb N k i k else N i k), (if k < i then comb N k k b else N k b) with
          | some a, some b' => (match (if i < i then comb N k i b else N i b) with | some c => some (min c (a + b')) | none => some (a + b'))
          | _, _ => (if i < i then comb N k i b else N i b)) = _
        have e2 : (if k < i then comb N k k b else N k b) = N k b := by rw [comb_row hkk]; split <;> rfl
        rw [e2, if_neg (Nat.lt_irrefl i), if_neg (Nat.lt_irrefl i)]
        rfl
      rw [this] at hz
      exact hB2 i b z hz
    have hb : ∀ J, J ≤ n → ∀ a b, -1000000000000 ≤ rowR k i (encM (stageT n k N i)) J a b ∧ rowR k i (encM (stageT n k N i)) J a b ≤ 1000000000000 := fun J _ a b => by
      obtain ⟨r1, r2⟩ := rowR_enc s2 s1 hcI J
      rw [r1]
      exact enc_bd r2 a b
    have w1 : IntKind.i64.wrap ((i : Int) + 1) = (i : Int) + 1 := wrap_i64 (by omega) (by omega)
    have hbx := hH.box
    simp only [intsD] at hbx
    simp [k116l1, u1, u3, v14, v15, hi, hbx, ev_loop, hM]
    refine Res.in3 (lp_rule 0 (W0 M n k i (encM (stageT n k N i)) mb b1 ks oc _ h0) _ (row_round M n k i hk hi hn (encM (stageT n k N i)) mb b1 ks oc _ h0 (by simp [u1]) (by simp [u3]) (by simp) hb) n f _ (by omega) ⟨_, _, 0, rfl, by omega, fun q _ _ => rfl, by simp, by simp, ((hH.bump _).bump _).bump _⟩) ?_
    rintro xo so ⟨rfl, x', h', j, rfl, hj, sm', v20, v21, hH'⟩
    have hjn : j = n := by omega
    subst hjn
    rw [e1] at hH'
    have y1 : x'.v 1 = .ptr b1 0 := by rw [sm' 1 (by omega) (by omega)]; simp [u1]
    have y4 : x'.v 4 = D.int i := by rw [sm' 4 (by omega) (by omega)]; simp
    have y14 : x'.v 14 = D.int j := by rw [sm' 14 (by omega) (by omega)]; simp [v14]
    have y15 : x'.v 15 = D.int i := by rw [sm' 15 (by omega) (by omega)]; simp [v15]
    have smq : ∀ q, q < 10 → q ≠ 4 → q ≠ 5 → x'.v q = x0.v q := fun q h1 h2 h3 => by
      have ne : ∀ t, 10 ≤ t → (t = q) = False := fun t ht => by simp; omega
      have ne4 : (4 = q) = False := by simp; omega
      rw [sm' q (by omega) h3, ← sm q h1 h2 h3]; simp [ne, ne4]
    have hm := hH'.mat
    have hl := hm.len
    have hbx' := hH'.box
    have htop := hm.top
    obtain ⟨ri, b1', b2, b3, gi⟩ := hm.at hi
    obtain ⟨L, hL⟩ : ∃ L, L = ks.map (rowS j) := ⟨_, rfl⟩
    rw [← hL] at htop b1'
    have hLl : L.length = j := by rw [hL]; simp [hl]
    simp only [rowS] at b1'
    simp only [intsD] at hbx'
    have i1 : i + 1 ≤ j := hi
    have hyl : ∀ y : Nat → Int, (yCs j y).length = j := yCs_len j
    have hyi : ∀ (y : Nat → Int) (h' : i < (yCs j y).length), (yCs j y)[i]'h' = D.int (y i) := fun y h' => Option.some.inj (by rw [← List.getElem?_eq_getElem h']; exact yCs_get hi)
    have o1 : ∀ a b c d (e : Option Nat), D.one (.slr a b c d e) = true := fun _ _ _ _ _ => rfl
    have o2 : ∀ a : Int, D.one (.val (.int .i64 a)) = true := fun _ => rfl
    have eii : encM (stageT j k N (i + 1)) i i = enc (comb N k i i) := by show enc (stageT j k N (i + 1) i i) = _; rw [e2]
    rcases comb_diag (k := k) (hdg i hi) with hc0 | ⟨z, hz0, hc0⟩
    · have eii' : encM (stageT j k N (i + 1)) i i = 0 := by rw [eii, hc0]; rfl
      simp [k116l1, y1, y4, y14, y15, hbx', htop, b1', gi, hLl, hyl, hyi, i1, hi, o1, o2, w1, eii', D.cells]
      refine ⟨c - 1, by omega, _, _, i + 1, rfl, by omega, fun q h1 h2 h3 => ?_, by simp [y14], by simp, (hH'.bump _).bump _, fun q hq => ?_⟩
      · have ne : ∀ t, 10 ≤ t → (t = q) = False := fun t ht => by simp; omega
        rw [← smq q h1 h2 h3]; simp [ne]
      · rcases Nat.lt_or_eq_of_le (Nat.le_of_lt_succ hq) with h1 | h1
        · exact hz q h1
        · subst h1; exact hc0
    · have eii' : encM (stageT j k N (i + 1)) i i = z := by rw [eii, hc0]; rfl
      simp [k116l1, y1, y4, y14, y15, hbx', htop, b1', gi, hLl, hyl, hyi, i1, hi, o1, o2, w1, eii', hz0, D.cells]
      exact ⟨⟨_, _, rfl, by simp, by first | exact (hH'.bump _).only | exact ((hH'.bump _).bump _).only, by first | exact (hH'.bump _).fr | exact ((hH'.bump _).bump _).fr, _, by first | exact (hH'.bump _).mat | exact ((hH'.bump _).bump _).mat⟩, i, hi, by rw [hc0]; simp; omega⟩
  · simp [k116l1, v14, v15, hi]
    refine ⟨_, _, i, rfl, by omega, fun q h1 h2 h3 => ?_, by simp [v14], by simp [v15], hH.bump _, hz⟩
    have ne : ∀ t, 10 ≤ t → (t = q) = False := fun t ht => by simp; omega
    rw [← sm q h1 h2 h3]; simp [ne]
end Go.Proofs.YtgbkdjlekfjkfaaGreatDoor
/- The document's closure: all rounds, in place. -/
namespace Go.Proofs.YtgbkdjlekfjkfaaGreatDoor
open Go Go.Em Go.Em.Net
set_option maxRecDepth 100000
theorem Res.in4 {L : Option (Ex × St)} {i1 i2 : Nat} {F : St → Option (Ex × St)} {P Q : Ex → St → Prop} (h : Res L P) (hk : ∀ x s, P x s → Res (andThen (blockK i1 (blockK i2 (some (x, s)))) F) Q) : Res (andThen (blockK i1 (blockK i2 L)) F) Q := by
  obtain ⟨x, s, rfl, p⟩ := h; exact hk x s p
def W2 (M : List Int) (n : Nat) (E : Mx) (mb b1 : Nat) (ks : List Nat) (oc : Option Nat) (h0 : Heap) (c : Nat) (s : St) : Prop := ∃ (x : Env 89) (h : Heap) (k : Nat), s = ⟨x.l, h, []⟩ ∧ k + c = n ∧ x.v 1 = .ptr b1 0 ∧ x.v 8 = D.int n ∧ x.v 9 = D.int k ∧ SrH M n (encM (fw E k)) mb b1 ks oc h0 h ∧ ∀ q, q ≤ k → ∀ i, i < n → fw E q i i = some 0
set_option maxHeartbeats 8000000 in
theorem srt_round (M : List Int) {n : Nat} (hM : M.length = n) (hn : n ≤ 64) {l : List Mo} (g : Good n l) (mb b1 : Nat) (ks : List Nat) (oc : Option Nat) (h0 : Heap) :
    ∀ f, 200 ≤ f → ∀ c s, W2 M n (EF n l) mb b1 ks oc h0 c s → Res (k116l2.ev ⟨pg, 89, none⟩ (rc pg f) s) (Rnd (W2 M n (EF n l) mb b1 ks oc h0) (fun x s => (x = .exit 0 ∧ W2 M n (EF n l) mb b1 ks oc h0 0 s) ∨ (x = .ret ∧ Bad n mb ks h0 s ∧ ∃ k i, k ≤ n ∧ i < n ∧ fw (EF n l) k i i ≠ some 0)) c) := by
  rintro f hf c s ⟨x, h, k, rfl, hkc, v1, v8, v9, hH, hd⟩
  have kn := kn_EF g.hin
  have ho : Out n (EF n l) := kn.out
  by_cases hk : k < n
  · obtain ⟨hb1, hb2⟩ := g.half hn hk hd
    have hkk := hd k (Nat.le_refl _) k hk
    have hok : Out n (fw (EF n l) k) := ho.fw k (by omega)
    have w1 : IntKind.i64.wrap ((k : Int) + 1) = (k : Int) + 1 := wrap_i64 (by omega) (by omega)
    have hbx := hH.box
    simp only [intsD] at hbx
    simp [k116l2, v1, v8, v9, hk, hbx, ev_loop, hM]
    refine Res.in4 (lp_rule 100 (W1 M n k (fw (EF n l) k) mb b1 ks oc _ h0) _ (stage_round M n k hM hk hn (fw (EF n l) k) hkk hok hb1 hb2 (fun i hi => hd k (Nat.le_refl _) i hi) mb b1 ks oc _ h0 (by simp [v1]) (by simp)) n f _ (by omega) ⟨_, _, 0, rfl, by omega, fun q _ _ _ => rfl, by simp, by simp, ((hH.bump _).bump _).bump _, fun q hq => absurd hq (Nat.not_lt_zero _)⟩) ?_
    rintro xo so (⟨rfl, x', h', i, rfl, hi, sm, v14, v15, hH', hz⟩ | ⟨rfl, ⟨x', h', rfl, v2, o, fr, mt⟩, i, hi, hne⟩)
    · have hin : i = n := by omega
      subst hin
      have y1 : x'.v 1 = .ptr b1 0 := by rw [sm 1 (by omega) (by omega) (by omega)]; simp [v1]
      have y8 : x'.v 8 = D.int i := by rw [sm 8 (by omega) (by omega) (by omega)]; simp [v8]
      have y9 : x'.v 9 = D.int k := by rw [sm 9 (by omega) (by omega) (by omega)]; simp [v9]
      have hst : stageT i k (fw (EF i l) k) i = fw (EF i l) (k + 1) := stage_full hkk hok hk
      rw [hst] at hH'
      simp [y9, w1]
      refine ⟨c - 1, by omega, _, _, k + 1, rfl, by omega, by simp [y1], by simp [y8], by simp, hH'.bump _, fun q hq a ha => ?_⟩
      rcases Nat.lt_or_eq_of_le hq with h1 | h1
      · exact hd q (by omega) a ha
      · subst h1; exact hz a ha
    · simp
      exact ⟨⟨x', h', rfl, v2, o, fr, mt⟩, k + 1, by omega, i, hi, hne⟩
  · simp [k116l2, v8, v9, hk]
    exact ⟨_, _, k, rfl, by omega, by simp [v1], by simp [v8], by simp [v9], hH.bump _, hd⟩
end Go.Proofs.YtgbkdjlekfjkfaaGreatDoor
/- The document's closure: the function that lowers the numbers. -/
namespace Go.Proofs.YtgbkdjlekfjkfaaGreatDoor
open Go Go.Em Go.Em.Net
set_option maxRecDepth 100000
def SrtC (n : Nat) (l : List Mo) (mb : Nat) (ks : List Nat) (h : Heap) (d : D) (h' : Heap) : Prop := Only ks h h' ∧ h'.Fr ∧ ((d = D.bool true ∧ Mat n (encM (fw (EF n l) n)) mb ks h' ∧ ∀ q, q ≤ n → ∀ i, i < n → fw (EF n l) q i i = some 0) ∨ (d = D.bool false ∧ (∃ B, Mat n B mb ks h') ∧ ∃ k i, k ≤ n ∧ i < n ∧ fw (EF n l) k i i ≠ some 0))
set_option maxHeartbeats 8000000 in
theorem srt_sh (M : List Int) {n : Nat} (hM : M.length = n) (hn : n ≤ 64) {l : List Mo} (g : Good n l) {mb : Nat} {ks : List Nat} (oc : Option Nat) {h : Heap} (hm : Mat n (encM (EF n l)) mb ks h) (hf : h.Fr) {f : Nat} (hfl : 400 ≤ f) :
    ∃ d h', (rc pg f).fn 116 [.agg [intsD M, .slr mb 0 n 1 oc]] h = some (.ret d, h') ∧ SrtC n l mb ks h d h' := by
  obtain ⟨m, rfl, e⟩ := fn_body (pg := pg) (f := 116) (args := [.agg [intsD M, .slr mb 0 n 1 oc]]) (h := h) (show 0 < f by omega) rfl rfl
  rw [e]
  have hfr : ∀ j, h.raw (h.next + j) = none := fun j => hf _ (by omega)
  have kn := kn_EF g.hin
  have hd0 : ∀ i, i < n → EF n l i i = some 0 := fun i hi => kn.diag i hi
  have hbk : h.next + 1 ∉ ks := fun hk => by have := (hm.lt _ hk).1; omega
  have hmlt := hm.mlt
  have o1 : ∀ a b c d (e : Option Nat), D.one (.slr a b c d e) = true := fun _ _ _ _ _ => rfl
  simp [k116, Env.v_ini, hfr, D.cells, D.one, intsD, o1, Nat.add_assoc, ev_loop, hM]
  have hS0 : SrH M n (encM (fw (EF n l) 0)) mb (h.next + 1) ks oc h (((h.bump 89).set (h.next + 1) (some (.cells 88 [intsD M, .slr mb 0 n 1 oc]))).bump 89) := by
    have hne : ∀ q, q ∈ ks → q ≠ h.next + 1 := fun q hq e => hbk (by rw [← e]; exact hq)
    refine SrH.bump ⟨⟨hm.len, by simp [show mb ≠ h.next + 1 by omega, hm.top], hm.nd, fun q hq => ⟨by have := (hm.lt q hq).1; simp; omega, (hm.lt q hq).2⟩, fun j hj => by simp [hne _ (List.getElem_mem hj)]; exact hm.row j hj, by simp; omega⟩, ⟨by simp, fun q h1 h2 => by simp [show q ≠ h.next + 1 by omega]⟩, by simp, by simp, hbk, ?_⟩ 89
    repeat' first | exact hf | apply Heap.Fr.bump | apply Heap.Fr.set
    all_goals first | omega | (simp <;> omega)
  refine Res.tailG (F := fun d : D => d) (C := SrtC n l mb ks h) (lp_rule 200 (W2 M n (EF n l) mb (h.next + 1) ks oc h) _ (srt_round M hM hn g mb (h.next + 1) ks oc h) n m _ (by omega) ⟨_, _, 0, rfl, by omega, by simp, by simp, by simp, by simpa [intsD] using hS0, fun q hq i hi => by
    obtain rfl : q = 0 := by omega
    exact hd0 i hi⟩) ?_
  rintro x s (⟨rfl, x, h', k, rfl, hk, v1, v8, v9, hH, hd⟩ | ⟨rfl, ⟨x, h', rfl, v2, o, fr, mt⟩, hne⟩)
  · have hkn : k = n := by omega
    subst hkn
    have hH' := hH.bump 89
    exact ⟨D.bool true, _, by simp, hH'.only, hH'.fr, .inl ⟨rfl, hH'.mat, hd⟩⟩
  · exact ⟨D.bool false, h', by simp [v2], o, fr, .inr ⟨rfl, mt, hne⟩⟩
end Go.Proofs.YtgbkdjlekfjkfaaGreatDoor
/- The document's closure: the rows before the claims. -/
namespace Go.Proofs.YtgbkdjlekfjkfaaGreatDoor
open Go Go.Em Go.Em.Net
set_option maxRecDepth 100000
def rwY (i J : Nat) : Nat → Int := fun b => if b < J ∧ b ≠ i then 1000000000 else 0
def F0 (n i rb : Nat) (x0 : Env 101) (h0 : Heap) (c : Nat) (s : St) : Prop := ∃ (x : Env 101) (h : Heap) (j : Nat), s = ⟨x.l, h, []⟩ ∧ j + c = n ∧ (∀ q, q < 19 → q ≠ 7 → x.v q = x0.v q) ∧ x.v 26 = D.int n ∧ x.v 27 = D.int j ∧ h.get rb = some (.cells 3 (yCs n (rwY i j))) ∧ (∀ q, q ≠ rb → h.raw q = h0.raw q) ∧ h0.next ≤ h.next ∧ rb < h0.next ∧ h.Fr
set_option maxHeartbeats 8000000 in
theorem far_round (n i rb : Nat) (hn : n ≤ 64) (hi : i < n) (x0 : Env 101) (h0 : Heap) (v5 : x0.v 5 = D.int i) (v6 : x0.v 6 = .slr rb 0 n 1 (some n)) : ∀ f, 0 ≤ f → ∀ c s, F0 n i rb x0 h0 c s → Res (k56l0.ev ⟨pg, 101, none⟩ (rc pg f) s) (Rnd (F0 n i rb x0 h0) (fun x s => x = .exit 2 ∧ F0 n i rb x0 h0 0 s) c) := by
  rintro f hf c s ⟨x, h, j, rfl, hjc, sm, v26, v27, hg, hu, hnx, hrb, hfr'⟩
  have u5 := sm 5 (by omega) (by omega)
  have u6 := sm 6 (by omega) (by omega)
  rw [v5] at u5
  rw [v6] at u6
  by_cases hj : j < n
  · have w1 : IntKind.i64.wrap ((j : Int) + 1) = (j : Int) + 1 := wrap_i64 (by omega) (by omega)
    have hyl := yCs_len n (rwY i j)
    have j1 : j + 1 ≤ n := hj
    have o2 : ∀ a : Int, D.one (.val (.int .i64 a)) = true := fun _ => rfl
    by_cases hij : i = j
    · have hij' : ((i : Int) != (j : Int)) = false := by simp [hij]
      have he : rwY i (j + 1) = rwY i j := by
        funext b; unfold rwY
        by_cases hb : b < j
        · simp [hb, show b < j + 1 by omega]
        · by_cases hbj : b = j
          · subst hbj; simp [hij]
          · simp [hb, show ¬ b < j + 1 by omega]
      simp [-bne_iff_ne, -bne_eq_false_iff_eq, k56l0, u5, u6, v26, v27, hj, hij', w1]
      refine ⟨c - 1, by omega, _, _, j + 1, rfl, by omega, fun q h1 h2 => ?_, by simp [v26], by simp, by simp [hg, he], fun q hq => by simp [hu q hq], by simp; omega, hrb, ?_⟩
      · have ne : ∀ t, 19 ≤ t → (t = q) = False := fun t ht => by simp; omega
        have ne7 : (7 = q) = False := by simp; omega
        rw [← sm q h1 h2]; simp [ne, ne7]
      · repeat' first | exact hfr' | apply Heap.Fr.bump
    · have hij' : ((i : Int) != (j : Int)) = true := by simp; omega
      have hst : (yCs n (rwY i j)).take j ++ D.int 1000000000 :: (yCs n (rwY i j)).drop (j + 1) = yCs n (rwY i (j + 1)) := by
        have : rwY i (j + 1) = fun b => if b = j then 1000000000 else rwY i j b := by
          funext b; unfold rwY
          by_cases hbj : b = j
          · subst hbj; simp [show b ≠ i from fun e => hij e.symm]
          · by_cases hb : b < j
            · simp [hb, hbj, show b < j + 1 by omega]
            · simp [hb, hbj, show ¬ b < j + 1 by omega]
        rw [this, ← yCs_set, List.set_eq_take_append_cons_drop, if_pos (by rw [hyl]; exact hj)]
      simp [-bne_iff_ne, -bne_eq_false_iff_eq, k56l0, u5, u6, v26, v27, hj, hij', w1, hg, hyl, j1, o2, hst, D.cells]
      refine ⟨c - 1, by omega, _, _, j + 1, rfl, by omega, fun q h1 h2 => ?_, by simp [v26], by simp, by simp, fun q hq => by simp [hq, hu q hq], by simp; omega, hrb, ?_⟩
      · have ne : ∀ t, 19 ≤ t → (t = q) = False := fun t ht => by simp; omega
        have ne7 : (7 = q) = False := by simp; omega
        rw [← sm q h1 h2]; simp [ne, ne7]
      · repeat' first | exact hfr' | apply Heap.Fr.bump | apply Heap.Fr.set
        all_goals first | omega | (simp <;> omega)
  · simp [k56l0, v26, v27, hj]
    exact ⟨_, _, j, rfl, by omega, fun q h1 h2 => by
      have ne : ∀ t, 19 ≤ t → (t = q) = False := fun t ht => by simp; omega
      rw [← sm q h1 h2]; simp [ne], by simp [v26], by simp [v27], by simp [hg], fun q hq => by simp [hu q hq], by simp; omega, hrb, hfr'.bump _⟩
def GY (ty len : Nat) (cs : List D) (h : Heap) (d : D) : Prop := (len = 0 ∧ d = .val (.slice none 0 0)) ∨ 0 < len ∧ ∃ k, d = .slr k 0 len 1 none ∧ h.get k = some (.cells ty cs) ∧ k < h.next
def V1 (l : List Clm) (M : List Int) (n b2 b4 : Nat) (c : Nat) (s : St) : Prop := ∃ (x : Env 101) (h : Heap) (i : Nat) (ks : List Nat) (d : D), s = ⟨x.l, h, []⟩ ∧ i + c = n ∧ x.v 0 = clsD l ∧ x.v 2 = .ptr b2 0 ∧ x.v 4 = .ptr b4 0 ∧ x.v 17 = D.int n ∧ x.v 18 = D.int i ∧ h.get b4 = some (.cells 88 [intsD M, d]) ∧ h.get b2 = some (.cells 88 [.val (.slice none 0 0), .val (.slice none 0 0)]) ∧ b4 < h.next ∧ b2 < h.next ∧ b2 ≠ b4 ∧ ks.length = i ∧ ks.Nodup ∧ (∀ q ∈ ks, q < h.next) ∧ (∀ j, ∀ hj : j < ks.length, h.get ks[j] = some (.cells 3 (yCs n (rwY j n)))) ∧ GY 40 i (ks.map (rowS n)) h d ∧ h.Fr
set_option maxHeartbeats 8000000 in
theorem rows_round (l : List Clm) (M : List Int) (n b2 b4 : Nat) (hM : M.length = n) (hn : n ≤ 64) : ∀ f, 100 ≤ f → ∀ c s, V1 l M n b2 b4 c s → Res (k56l1.ev ⟨pg, 101, none⟩ (rc pg f) s) (Rnd (V1 l M n b2 b4) (fun x s => x = .exit 0 ∧ V1 l M n b2 b4 0 s) c) := by
  rintro f hf c s ⟨x, h, i, ks, d, rfl, hic, v0, v2, v4, v17, v18, g4, g2, n4, n2, ne24, hks, hnd, hkq, hrow, gy, hfr'⟩
  by_cases hi : i < n
  · have w1 : IntKind.i64.wrap ((i : Int) + 1) = (i : Int) + 1 := wrap_i64 (by omega) (by omega)
    have hfr : ∀ j, h.raw (h.next + j) = none := fun j => hfr' _ (by omega)
    have hr1 : (8 : Int) * n ≤ (room : Int) := by unfold room; omega
    have z1 : zerosD [.int .i64 0] 1 n = yCs n (rwY i 0) := by
      unfold zerosD yCs
      rw [Nat.mul_one]
      refine List.map_congr_left fun q _ => ?_
      simp [Nat.mod_one, rwY]
    have o1 : ∀ a b c d (e : Option Nat), D.one (.slr a b c d e) = true := fun _ _ _ _ _ => rfl
    simp only [intsD] at g4
    simp [k56l1, v0, v2, v4, v17, v18, hi, g4, hM, hfr, hr1, z1, Nat.add_assoc, ev_loop]
    refine Res.in3 (lp_rule 0 (F0 n i (h.next + 226) _ _) _ (far_round n i (h.next + 226) hn hi _ _ (by simp) (by simp)) n f _ (by omega) ⟨_, _, 0, rfl, by omega, fun q _ _ => rfl, by simp, by simp, by simp, fun q _ => rfl, Nat.le_refl _, by simp <;> omega, ?_⟩) ?_
    · repeat' first | exact hfr' | apply Heap.Fr.bump | apply Heap.Fr.set
      all_goals first | omega | (simp <;> omega)
    rintro xo so ⟨rfl, x', h', j, rfl, hj, sm, v26, v27, hg, hu, hnx, hrb, hf''⟩
    have hjn : j = n := by omega
    rw [hjn] at hg
    have y0 : x'.v 0 = clsD l := by rw [sm 0 (by omega) (by omega)]; simp [v0]
    have y2 : x'.v 2 = .ptr b2 0 := by rw [sm 2 (by omega) (by omega)]; simp [v2]
    have y4 : x'.v 4 = .ptr b4 0 := by rw [sm 4 (by omega) (by omega)]; simp [v4]
    have y6 : x'.v 6 = .slr (h.next + 226) 0 n 1 (some n) := by rw [sm 6 (by omega) (by omega)]; simp
    have y17 : x'.v 17 = D.int n := by rw [sm 17 (by omega) (by omega)]; simp [v17]
    have y18 : x'.v 18 = D.int i := by rw [sm 18 (by omega) (by omega)]; simp [v18]
    have hn' : h.next + 404 ≤ h'.next := by simp at hnx; omega
    have keepr : ∀ q, q < h.next → h'.raw q = h.raw q := fun q hq => by rw [hu q (by omega)]; simp [show q ≠ h.next + 226 by omega]
    have keepg : ∀ q, q < h.next → h'.get q = h.get q := fun q hq => by unfold Heap.get; rw [keepr q hq]
    have g4' := g4
    rw [← keepg b4 n4] at g4'
    have g2' := g2
    rw [← keepg b2 n2] at g2'
    have hfr'' : ∀ j, h'.raw (h'.next + j) = none := fun j => hf'' _ (by omega)
    have n2' : ∀ j, (b2 = h'.next + j) = False := fun j => by simp; omega
    have nb : ∀ j, (b4 = h'.next + j) = False := fun j => by simp; omega
    have nb' : ∀ j, (h'.next + j = b4) = False := fun j => by simp; omega
    rcases gy with ⟨e0, rfl⟩ | ⟨e0, mb, rfl, gm, nmb⟩
    · have hk0 : ks = [] := List.eq_nil_of_length_eq_zero (by omega)
      simp [k56l1, y0, y2, y4, y6, y17, y18, g4', nb, nb', hfr'', D.cells, D.one, Nat.add_assoc, zerosD, apK_some, List.range_succ, w1, room, maxLen]
      refine ⟨c - 1, by omega, _, _, i + 1, ks ++ [h.next + 226], .slr (h'.next + 41) 0 (i + 1) 1 none, rfl, by omega, by simp [y0], by simp [y2], by simp [y4], by simp [y17], by simp, by simp [intsD, e0], by simp [n2', nb, nb', ne24]; exact g2', by first | (simp; done) | (simp; omega), by first | (simp; done) | (simp; omega), ne24, by simp [hks], ?_, fun q hq => ?_, fun j hj => ?_, .inr ⟨by omega, h'.next + 41, rfl, ?_, by first | (simp; done) | (simp; omega)⟩, ?_⟩
      · rw [List.nodup_append]
        exact ⟨hnd, by simp, fun a ha b hb => by simp at hb; subst hb; have := hkq a ha; omega⟩
      · rcases List.mem_append.1 hq with hq | hq
        · have := hkq q hq; simp; omega
        · simp at hq; subst hq; simp; omega
      · by_cases hjk : j < ks.length
        · have hq := hkq _ (List.getElem_mem hjk)
          have hr' := hrow j hjk
          rw [List.getElem_append_left hjk]
          have t4 : ks[j] ≠ b4 := fun e => by rw [e, g4] at hr'; cases hr'
          skip
          simp [t4, show ks[j] ≠ h'.next + 41 by omega, show ks[j] ≠ h'.next + 40 by omega, keepg _ hq, hr']
        · have hje : j = ks.length := by simp at hj; omega
          subst hje
          simp [show h.next + 226 ≠ b4 by omega, show h.next + 226 ≠ h'.next + 41 by omega, show h.next + 226 ≠ h'.next + 40 by omega, hg, hks, hjn]
      · subst hk0; simp [rowS, show (h'.next + 41 = b4) = False by simp; omega]
      · repeat' first | exact hf'' | apply Heap.Fr.bump | apply Heap.Fr.set
        all_goals first | omega | (simp <;> omega)
    · have gm' := gm
      rw [← keepg mb nmb] at gm'
      have nm : ∀ j, (mb = h'.next + j) = False := fun j => by simp; omega
      have nm' : ∀ j, (h'.next + j = mb) = False := fun j => by simp; omega
      have nmr : (mb = h.next + 226) = False := by simp; omega
      have nmr' : (h.next + 226 = mb) = False := by simp; omega
      have nm4 : (b4 = mb) = False := by
        simp; intro e; rw [e, gm] at g4; cases g4
      have nm4' : (mb = b4) = False := by
        simp; intro e; rw [← e, gm] at g4; cases g4
      have nm2 : (b2 = mb) = False := by
        simp; intro e; rw [e, gm] at g2; cases g2
      have happ := fun t hh news => appS_none (t := t) (et := 40) (sz := 1) (bytes := 24) (h := hh) (m := 1) (news := news) (k := mb) (n := i) (cs := ks.map (rowS n)) (by simp [hks]) (by omega) (by unfold room; omega) (by unfold maxLen; omega)
      simp [k56l1, y0, y2, y4, y6, y17, y18, g4', nb, nb', hfr'', D.cells, D.one, Nat.add_assoc, zerosD, apK_some, List.range_succ, w1, gm', nm, nm', nmr, nmr', happ, nm4, nm4']
      refine ⟨c - 1, by omega, _, _, i + 1, ks ++ [h.next + 226], .slr (h'.next + 41) 0 (i + 1) 1 none, rfl, by omega, by simp [y0], by simp [y2], by simp [y4], by simp [y17], by simp, by simp [intsD], by simp [n2', nb, nb', ne24, nm2]; exact g2', by first | (simp; done) | (simp; omega), by first | (simp; done) | (simp; omega), ne24, by simp [hks], ?_, fun q hq => ?_, fun j hj => ?_, .inr ⟨by omega, h'.next + 41, rfl, ?_, by first | (simp; done) | (simp; omega)⟩, ?_⟩
      · rw [List.nodup_append]
        exact ⟨hnd, by simp, fun a ha b hb => by simp at hb; subst hb; have := hkq a ha; omega⟩
      · rcases List.mem_append.1 hq with hq | hq
        · have := hkq q hq; simp; omega
        · simp at hq; subst hq; simp; omega
      · by_cases hjk : j < ks.length
        · have hq := hkq _ (List.getElem_mem hjk)
          have hr' := hrow j hjk
          rw [List.getElem_append_left hjk]
          have t4 : ks[j] ≠ b4 := fun e => by rw [e, g4] at hr'; cases hr'
          have tm : ks[j] ≠ mb := fun e => by rw [e, gm] at hr'; cases hr'
          simp [t4, show ks[j] ≠ h'.next + 41 by omega, show ks[j] ≠ h'.next + 40 by omega, tm, keepg _ hq, hr']
        · have hje : j = ks.length := by simp at hj; omega
          subst hje
          simp [show h.next + 226 ≠ b4 by omega, show h.next + 226 ≠ h'.next + 41 by omega, show h.next + 226 ≠ h'.next + 40 by omega, nmr', hg, hks, hjn]
      · simp [rowS, show (h'.next + 41 = b4) = False by simp; omega]
      · repeat' first | exact hf'' | apply Heap.Fr.bump | apply Heap.Fr.set
        all_goals first | omega | (simp <;> omega)
  · simp [k56l1, v17, v18, hi]
    exact ⟨_, _, i, ks, d, rfl, by omega, by simp [v0], by simp [v2], by simp [v4], by simp [v17], by simp [v18], by simp [g4], by simp [g2], by simp; omega, by simp; omega, ne24, hks, hnd, fun q hq => by have := hkq q hq; simp; omega, fun j hj => by simp [hrow j hj], by
      rcases gy with e | ⟨e, k, e1, e2, e3⟩
      · exact .inl e
      · exact .inr ⟨e, k, e1, by simp [e2], by simp; omega⟩, hfr'.bump _⟩
end Go.Proofs.YtgbkdjlekfjkfaaGreatDoor
/- The document's closure: the claims. -/
namespace Go.Proofs.YtgbkdjlekfjkfaaGreatDoor
open Go Go.Em Go.Em.Net
set_option maxRecDepth 100000
theorem Res.step {o : Option (Ex × St)} {i1 : Nat} {K F : St → Option (Ex × St)} {P : St → Prop} {Q : Ex → St → Prop} (h : ∃ s', o = some (.normal, s') ∧ P s') (hk : ∀ s', P s' → Res (andThen (blockK i1 (K s')) F) Q) : Res (andThen (blockK i1 (andThen o K)) F) Q := by
  obtain ⟨s', rfl, p⟩ := h
  exact hk s' p
theorem Res.step' {o : Option (Ex × St)} {i1 : Nat} {F : St → Option (Ex × St)} {P : St → Prop} {Q : Ex → St → Prop} (h : ∃ s', o = some (.normal, s') ∧ P s') (hk : ∀ s', P s' → Res (F s') Q) : Res (andThen (blockK i1 o) F) Q := by
  obtain ⟨s', rfl, p⟩ := h
  simpa using hk s' p
def clmI (M : List Int) (A : Nat → Nat → Int) (c : Clm) : Nat → Nat → Int := lowI (lowI A ⟨0, false, placeF M c.a, placeF M c.b, c.hi⟩) ⟨0, true, placeF M c.b, placeF M c.a, -c.lo⟩
structure V2H (M : List Int) (n : Nat) (A : Nat → Nat → Int) (mb b2 b4 : Nat) (ks : List Nat) (h : Heap) : Prop where
  mat : Mat n A mb ks h
  g4 : h.get b4 = some (.cells 88 [intsD M, .slr mb 0 n 1 none])
  g2 : h.get b2 = some (.cells 88 [.val (.slice none 0 0), .val (.slice none 0 0)])
  n4 : b4 < h.next
  n2 : b2 < h.next
  fr : h.Fr
theorem V2H.bump {M : List Int} {n : Nat} {A : Nat → Nat → Int} {mb b2 b4 : Nat} {ks : List Nat} {h : Heap} (t : V2H M n A mb b2 b4 ks h) (z : Nat) : V2H M n A mb b2 b4 ks (h.bump z) :=
  ⟨t.mat.bump z, by simp [t.g4], by simp [t.g2], by have := t.n4; simp; omega, by have := t.n2; simp; omega, t.fr.bump z⟩
theorem V2H.new {M : List Int} {n : Nat} {A : Nat → Nat → Int} {mb b2 b4 : Nat} {ks : List Nat} {h : Heap} (t : V2H M n A mb b2 b4 ks h) {k : Nat} {ty : TypeId} {cs : List D} (b : Blk) (hk : k < h.next) (h1 : k ≠ mb) (h2 : k ≠ b4) (h3 : k ≠ b2) (h4 : k ∉ ks) : V2H M n A mb b2 b4 ks (h.set k (some b)) := by
  have hm := t.mat
  have hne : ∀ q, q ∈ ks → q ≠ k := fun q hq e => h4 (by rw [← e]; exact hq)
  exact ⟨⟨hm.len, by simp [Ne.symm h1, hm.top], hm.nd, fun q hq => by simpa using hm.lt q hq, fun j hj => by simp [hne _ (List.getElem_mem hj), hm.row j hj], by simpa using hm.mlt⟩, by simp [Ne.symm h2, t.g4], by simp [Ne.symm h3, t.g2], by simpa using t.n4, by simpa using t.n2, t.fr.set _ hk⟩
theorem V2H.put {M : List Int} {n : Nat} {A B : Nat → Nat → Int} {mb b2 b4 : Nat} {ks : List Nat} {h : Heap} (t : V2H M n A mb b2 b4 ks h) {i k : Nat} (hi : i < n) (hk : ∀ hj : i < ks.length, ks[i] = k) (hB : ∀ a, a ≠ i → B a = A a) : V2H M n B mb b2 b4 ks (h.set k (some (.cells 3 (yCs n (B i))))) := by
  have hl := t.mat.len
  have hkk := hk (by omega)
  have hkm : k ∈ ks := by rw [← hkk]; exact List.getElem_mem _
  have hkn := t.mat.lt k hkm
  have hrow : h.get k = some (.cells 3 (yCs n (A i))) := by rw [← hkk]; exact t.mat.row i (by omega)
  have h4 : b4 ≠ k := fun e => by have := t.g4; rw [e, hrow] at this; cases this
  have h2 : b2 ≠ k := fun e => by have := t.g2; rw [e, hrow] at this; cases this
  exact ⟨t.mat.put (B := B) hi hk (by simp) (fun q hq hk => by simp [hk]) (by simp) hB, by simp [h4, t.g4], by simp [h2, t.g2], by simpa using t.n4, by simpa using t.n2, t.fr.set _ hkn.1⟩
def k67a : Cd :=
  .draw [⟨⟨none, some 60, .inl (.fa (.s 4) 1)⟩, some [], [], 0, false⟩,
 ⟨⟨none, some 61, .inl (.ld false 1 (.s 60))⟩, some [], [], 1, false⟩,
 ⟨⟨none, some 62, .inl (.mv (.s 10))⟩, some [], [], 0, false⟩,
 ⟨⟨none, some 63, .inl (.ias 1 (.s 61) (.s 62))⟩, some [], [], 7, false⟩,
 ⟨⟨none, some 64, .inl (.ld false 1 (.s 63))⟩, some [], [], 15, false⟩,
 ⟨⟨none, some 65, .inl (.mv (.s 11))⟩, some [], [], 0, false⟩,
 ⟨⟨none, some 66, .inl (.fa (.s 4) 1)⟩, some [], [], 0, false⟩,
 ⟨⟨none, some 67, .inl (.ld false 1 (.s 66))⟩, some [], [], 64, false⟩,
 ⟨⟨none, some 68, .inl (.mv (.s 10))⟩, some [], [], 0, false⟩,
 ⟨⟨none, some 69, .inl (.ias 1 (.s 67) (.s 68))⟩, some [], [], 448, false⟩,
 ⟨⟨none, some 70, .inl (.ld false 1 (.s 69))⟩, some [], [], 960, false⟩,
 ⟨⟨none, some 71, .inl (.mv (.s 11))⟩, some [], [], 0, false⟩,
 ⟨⟨none, some 72, .inl (.ias 1 (.s 70) (.s 71))⟩, some [], [], 4032, false⟩,
 ⟨⟨none, some 73, .inl (.ld false 1 (.s 72))⟩, some [], [], 8128, false⟩,
 ⟨⟨none, some 74, .inl (.fa (.s 9) 3)⟩, some [], [], 0, false⟩,
 ⟨⟨none, some 75, .inl (.ld false 1 (.s 74))⟩, some [], [], 16384, false⟩,
 ⟨⟨none, some 76, .inl (.mm false (.s 73) (.s 75))⟩, some [], [], 65472, false⟩,
 ⟨⟨none, some 77, .inl (.ias 1 (.s 64) (.s 65))⟩, some [], [], 131071, false⟩,
 ⟨⟨none, none, .inl (.st 1 (.s 77) (.s 76))⟩, (some [.at 64]), [], 262143, false⟩]
def k67b : Cd :=
  .draw [⟨⟨none, some 78, .inl (.fa (.s 4) 1)⟩, some [], [], 0, false⟩,
 ⟨⟨none, some 79, .inl (.ld false 1 (.s 78))⟩, some [], [], 1, false⟩,
 ⟨⟨none, some 80, .inl (.mv (.s 11))⟩, some [], [], 0, false⟩,
 ⟨⟨none, some 81, .inl (.ias 1 (.s 79) (.s 80))⟩, some [], [], 7, false⟩,
 ⟨⟨none, some 82, .inl (.ld false 1 (.s 81))⟩, some [], [], 15, false⟩,
 ⟨⟨none, some 83, .inl (.mv (.s 10))⟩, some [], [], 0, false⟩,
 ⟨⟨none, some 84, .inl (.fa (.s 4) 1)⟩, some [], [], 0, false⟩,
 ⟨⟨none, some 85, .inl (.ld false 1 (.s 84))⟩, some [], [], 64, false⟩,
 ⟨⟨none, some 86, .inl (.mv (.s 11))⟩, some [], [], 0, false⟩,
 ⟨⟨none, some 87, .inl (.ias 1 (.s 85) (.s 86))⟩, some [], [], 448, false⟩,
 ⟨⟨none, some 88, .inl (.ld false 1 (.s 87))⟩, some [], [], 960, false⟩,
 ⟨⟨none, some 89, .inl (.mv (.s 10))⟩, some [], [], 0, false⟩,
 ⟨⟨none, some 90, .inl (.ias 1 (.s 88) (.s 89))⟩, some [], [], 4032, false⟩,
 ⟨⟨none, some 91, .inl (.ld false 1 (.s 90))⟩, some [], [], 8128, false⟩,
 ⟨⟨none, some 92, .inl (.fa (.s 9) 2)⟩, some [], [], 0, false⟩,
 ⟨⟨none, some 93, .inl (.ld false 1 (.s 92))⟩, some [], [], 16384, false⟩,
 ⟨⟨none, some 94, .inl (.neg (.s 93))⟩, some [], [], 49152, false⟩,
 ⟨⟨none, some 95, .inl (.mm false (.s 91) (.s 94))⟩, some [], [], 131008, false⟩,
 ⟨⟨none, some 96, .inl (.ias 1 (.s 82) (.s 83))⟩, some [], [], 262143, false⟩,
 ⟨⟨none, none, .inl (.st 1 (.s 96) (.s 95))⟩, (some [.at 82]), [], 524287, false⟩]
theorem k67l2_eq : k56l2 = .seq (.region [⟨none, some 47, .inl (.bin .lss (.s 46) (.s 45))⟩])
 (.seq (.cond (.s 47) (.skip)
 (.exit 4))
 (.seq (.block 5 (.seq (.region [⟨none, some 48, .inl (.ias 5 (.s 44) (.s 46))⟩,
 ⟨none, some 49, .inl (.ld true 5 (.s 48))⟩,
 ⟨none, some 9, .inl (.alloc 70 [(.int .i64 0), (.int .i64 0), (.int .i64 0), (.int .i64 0), (.int .i64 0)])⟩,
 ⟨none, none, .inl (.st 5 (.s 9) (.s 49))⟩])
 (.seq (.region [⟨none, some 50, .inl (.fa (.s 4) 0)⟩,
 ⟨none, some 51, .inl (.ld false 1 (.s 50))⟩,
 ⟨none, some 52, .inl (.fa (.s 9) 0)⟩,
 ⟨none, some 53, .inl (.ld false 1 (.s 52))⟩,
 ⟨none, some 54, .inr (.fn 77 [(.s 51), (.s 53)])⟩,
 ⟨none, some 10, .inl (.mv (.s 54))⟩])
 (.seq (.region [⟨none, some 55, .inl (.fa (.s 4) 0)⟩,
 ⟨none, some 56, .inl (.ld false 1 (.s 55))⟩,
 ⟨none, some 57, .inl (.fa (.s 9) 1)⟩,
 ⟨none, some 58, .inl (.ld false 1 (.s 57))⟩,
 ⟨none, some 59, .inr (.fn 77 [(.s 56), (.s 58)])⟩,
 ⟨none, some 11, .inl (.mv (.s 59))⟩])
 (.seq k67a
  k67b)))))
 (.region [⟨none, some 97, .inl (.bin .add (.s 46) (.c (.int .i64 1)))⟩,
 ⟨none, some 46, .inl (.mv (.s 97))⟩]))) := rfl
set_option maxHeartbeats 8000000 in
theorem clm_a {M : List Int} {n : Nat} {A : Nat → Nat → Int} {mb b2 b4 b9 : Nat} {ks : List Nat} {h : Heap} (t : V2H M n A mb b2 b4 ks h) (k : Clm) (g9 : h.get b9 = some (.cells 70 (clC k))) (hlo : -100000000000 ≤ k.lo ∧ k.lo ≤ 100000000000) {a b : Nat} (ha : a < n) (hb : b < n) (x : Env 101) (v4 : x.v 4 = .ptr b4 0) (v9 : x.v 9 = .ptr b9 0) (v10 : x.v 10 = D.int a) (v11 : x.v 11 = D.int b) (f : Nat) :
    ∃ s', k67a.ev ⟨pg, 101, none⟩ (rc pg f) ⟨x.l, h, []⟩ = some (.normal, s') ∧ ∃ (x' : Env 101) (h' : Heap), s' = ⟨x'.l, h', []⟩ ∧ (∀ q, q < 60 → x'.v q = x.v q) ∧ V2H M n (updA A a b (min (A a b) (k.hi))) mb b2 b4 ks h' ∧ h'.get b9 = some (.cells 70 (clC k)) := by
  have hfr : ∀ j, h.raw (h.next + j) = none := fun j => t.fr _ (by omega)
  have hm := t.mat
  have hl := hm.len
  have g4 := t.g4
  have htop := hm.top
  obtain ⟨ri, a1, a2, a3, gi⟩ := hm.at ha
  obtain ⟨L, hL⟩ : ∃ L, L = ks.map (rowS n) := ⟨_, rfl⟩
  rw [← hL] at htop a1
  have hLl : L.length = n := by rw [hL]; simp [hl]
  simp only [rowS] at a1
  have i1 : a + 1 ≤ n := ha
  have j1 : b + 1 ≤ n := hb
  have hyl : ∀ y : Nat → Int, (yCs n y).length = n := yCs_len n
  have hyg : ∀ (y : Nat → Int) (h' : b < (yCs n y).length), (yCs n y)[b]'h' = D.int (y b) := fun y h' => Option.some.inj (by rw [← List.getElem?_eq_getElem h']; exact yCs_get hb)
  have w1 : IntKind.i64.wrap (-k.lo) = -k.lo := wrap_i64 (by omega) (by omega)
  obtain ⟨V, hV⟩ : ∃ V, V = min (A a b) (k.hi) := ⟨_, rfl⟩
  have hst : (yCs n (A a)).take b ++ D.int V :: (yCs n (A a)).drop (b + 1) = yCs n (updA A a b V a) := by
    have : updA A a b V a = fun w => if w = b then V else A a w := by funext w; simp [updA]
    rw [this, ← yCs_set, List.set_eq_take_append_cons_drop, if_pos (by rw [hyl]; exact hb)]
  have o1 : ∀ a b c d (e : Option Nat), D.one (.slr a b c d e) = true := fun _ _ _ _ _ => rfl
  have o2 : ∀ a : Int, D.one (.val (.int .i64 a)) = true := fun _ => rfl
  have n9 : (b9 = ri) = False := by
    simp; intro e; rw [e, gi] at g9; cases g9
  have n9' : (ri = b9) = False := by
    simp; intro e; rw [← e, gi] at g9; cases g9
  simp only [intsD, clC] at g4 g9
  rw [← hV]
  simp [k67a, v4, v9, v10, v11, ha, hb, g4, g9, htop, a1, gi, hLl, hyl, hyg, i1, j1, o1, o2, w1, ← hV, hst, D.cells]
  refine ⟨_, _, ⟨rfl, rfl⟩, fun q hq => ?_, (t.bump 101).put (B := updA A a b V) ha a3 (fun z hz => ?_), by simp [n9, n9', g9, clC]⟩
  · have ne : ∀ t, 60 ≤ t → (t = q) = False := fun t ht => by simp; omega
    simp [ne]
  · funext w; simp [updA, hz]
set_option maxHeartbeats 8000000 in
theorem clm_b {M : List Int} {n : Nat} {A : Nat → Nat → Int} {mb b2 b4 b9 : Nat} {ks : List Nat} {h : Heap} (t : V2H M n A mb b2 b4 ks h) (k : Clm) (g9 : h.get b9 = some (.cells 70 (clC k))) (hlo : -100000000000 ≤ k.lo ∧ k.lo ≤ 100000000000) {a b : Nat} (ha : a < n) (hb : b < n) (x : Env 101) (v4 : x.v 4 = .ptr b4 0) (v9 : x.v 9 = .ptr b9 0) (v10 : x.v 10 = D.int a) (v11 : x.v 11 = D.int b) (f : Nat) :
    ∃ s', k67b.ev ⟨pg, 101, none⟩ (rc pg f) ⟨x.l, h, []⟩ = some (.normal, s') ∧ ∃ (x' : Env 101) (h' : Heap), s' = ⟨x'.l, h', []⟩ ∧ (∀ q, q < 60 → x'.v q = x.v q) ∧ V2H M n (updA A b a (min (A b a) (-k.lo))) mb b2 b4 ks h' ∧ h'.get b9 = some (.cells 70 (clC k)) := by
  have hfr : ∀ j, h.raw (h.next + j) = none := fun j => t.fr _ (by omega)
  have hm := t.mat
  have hl := hm.len
  have g4 := t.g4
  have htop := hm.top
  obtain ⟨ri, a1, a2, a3, gi⟩ := hm.at hb
  obtain ⟨L, hL⟩ : ∃ L, L = ks.map (rowS n) := ⟨_, rfl⟩
  rw [← hL] at htop a1
  have hLl : L.length = n := by rw [hL]; simp [hl]
  simp only [rowS] at a1
  have i1 : b + 1 ≤ n := hb
  have j1 : a + 1 ≤ n := ha
  have hyl : ∀ y : Nat → Int, (yCs n y).length = n := yCs_len n
  have hyg : ∀ (y : Nat → Int) (h' : a < (yCs n y).length), (yCs n y)[a]'h' = D.int (y a) := fun y h' => Option.some.inj (by rw [← List.getElem?_eq_getElem h']; exact yCs_get ha)
  have w1 : IntKind.i64.wrap (-k.lo) = -k.lo := wrap_i64 (by omega) (by omega)
  obtain ⟨V, hV⟩ : ∃ V, V = min (A b a) (-k.lo) := ⟨_, rfl⟩
  have hst : (yCs n (A b)).take a ++ D.int V :: (yCs n (A b)).drop (a + 1) = yCs n (updA A b a V b) := by
    have : updA A b a V b = fun w => if w = a then V else A b w := by funext w; simp [updA]
    rw [this, ← yCs_set, List.set_eq_take_append_cons_drop, if_pos (by rw [hyl]; exact ha)]
  have o1 : ∀ a b c d (e : Option Nat), D.one (.slr a b c d e) = true := fun _ _ _ _ _ => rfl
  have o2 : ∀ a : Int, D.one (.val (.int .i64 a)) = true := fun _ => rfl
  have n9 : (b9 = ri) = False := by
    simp; intro e; rw [e, gi] at g9; cases g9
  have n9' : (ri = b9) = False := by
    simp; intro e; rw [← e, gi] at g9; cases g9
  simp only [intsD, clC] at g4 g9
  rw [← hV]
  simp [k67b, v4, v9, v10, v11, ha, hb, g4, g9, htop, a1, gi, hLl, hyl, hyg, i1, j1, o1, o2, w1, ← hV, hst, D.cells]
  refine ⟨_, _, ⟨rfl, rfl⟩, fun q hq => ?_, (t.bump 101).put (B := updA A b a V) hb a3 (fun z hz => ?_), by simp [n9, n9', g9, clC]⟩
  · have ne : ∀ t, 60 ≤ t → (t = q) = False := fun t ht => by simp; omega
    simp [ne]
  · funext w; simp [updA, hz]
def V2 (l : List Clm) (M : List Int) (n : Nat) (mb b2 b4 : Nat) (ks : List Nat) (c : Nat) (s : St) : Prop := ∃ (x : Env 101) (h : Heap) (i : Nat), s = ⟨x.l, h, []⟩ ∧ i + c = l.length ∧ x.v 2 = .ptr b2 0 ∧ x.v 4 = .ptr b4 0 ∧ x.v 44 = clsD l ∧ x.v 45 = D.int l.length ∧ x.v 46 = D.int i ∧ V2H M n ((l.take i).foldl (clmI M) (farN n)) mb b2 b4 ks h
set_option maxHeartbeats 8000000 in
theorem clm_round (l : List Clm) (hll : l.length ≤ 400) (M : List Int) (n : Nat) (hM : M.length = n) (hn : n ≤ 64) (hin : ∀ c, c ∈ l → c.a ∈ M ∧ c.b ∈ M ∧ -100000000000 ≤ c.lo ∧ c.lo ≤ 100000000000) (mb b2 b4 : Nat) (ks : List Nat) : ∀ f, 100 ≤ f → ∀ c s, V2 l M n mb b2 b4 ks c s → Res (k56l2.ev ⟨pg, 101, none⟩ (rc pg f) s) (Rnd (V2 l M n mb b2 b4 ks) (fun x s => x = .exit 4 ∧ V2 l M n mb b2 b4 ks 0 s) c) := by
  rintro f hf c s ⟨x, h, i, rfl, hic, v2, v4, v44, v45, v46, hH⟩
  simp only [clsD] at v44
  by_cases hi : i < l.length
  · obtain ⟨k, hk⟩ : ∃ k, l[i] = k := ⟨_, rfl⟩
    have hkl : k ∈ l := by rw [← hk]; exact List.getElem_mem hi
    obtain ⟨ma, mbb, lo1, lo2⟩ := hin k hkl
    obtain ⟨A, hA⟩ : ∃ A, A = (l.take i).foldl (clmI M) (farN n) := ⟨_, rfl⟩
    have hnext : (l.take (i + 1)).foldl (clmI M) (farN n) = clmI M A k := by
      rw [List.take_add_one, List.getElem?_eq_getElem hi, hk, List.foldl_append, ← hA]; rfl
    rw [← hA] at hH
    obtain ⟨a, ha⟩ : ∃ a, a = placeF M k.a := ⟨_, rfl⟩
    obtain ⟨b, hb⟩ : ∃ b, b = placeF M k.b := ⟨_, rfl⟩
    have an : a < n := by rw [ha, ← hM]; exact (place_at ma).1
    have bn : b < n := by rw [hb, ← hM]; exact (place_at mbb).1
    have ca := fun h => call_of (h := h) (pg := pg) (f := 77) rfl (by simp [intsD, ints_canonL]) (@index_run M (by omega) k.a f (by omega))
    have cb := fun h => call_of (h := h) (pg := pg) (f := 77) rfl (by simp [intsD, ints_canonL]) (@index_run M (by omega) k.b f (by omega))
    rw [ix_place ma, ← ha, Nat.zero_add] at ca
    rw [ix_place mbb, ← hb, Nat.zero_add] at cb
    have w1 : IntKind.i64.wrap ((i : Int) + 1) = (i : Int) + 1 := wrap_i64 (by omega) (by omega)
    have hfr : ∀ j, h.raw (h.next + j) = none := fun j => hH.fr _ (by omega)
    have n4 := hH.n4
    have n2 := hH.n2
    have nm := hH.mat.mlt
    have g4 := hH.g4
    have nb : ∀ j, (b4 = h.next + j) = False := fun j => by simp; omega
    have hz5 : zerosD [.int .i64 0, .int .i64 0, .int .i64 0, .int .i64 0, .int .i64 0] 5 1 = [D.int 0, D.int 0, D.int 0, D.int 0, D.int 0] := rfl
    have hHn : V2H M n A mb b2 b4 ks ((((((h.bump 101).bump 101).set (h.next + 110) (some (.cells 70 [D.int 0, D.int 0, D.int 0, D.int 0, D.int 0]))).set (h.next + 110) (some (.cells 70 (clC k)))).bump 101).bump 101) := by
      have q1 : h.next + 110 ∉ ks := fun e => by have := (hH.mat.lt _ e).1; omega
      exact ((((((hH.bump 101).bump 101).new (ty := 0) (cs := []) _ (by simp) (by omega) (by omega) (by omega) q1).new (ty := 0) (cs := []) _ (by simp) (by omega) (by omega) (by omega) q1).bump 101).bump 101)
    simp only [intsD] at ca cb g4
    simp [k67l2_eq, v2, v4, v44, v45, v46, hi, hk, clD, clC, g4, nb, hfr, ca, cb, D.cells, D.one, Nat.add_assoc, hz5]
    refine Res.step (clm_a (b9 := h.next + 110) hHn k (by simp) ⟨lo1, lo2⟩ an bn _ (by simp [v4]) (by simp) (by simp) (by simp) f) ?_
    rintro _ ⟨x1, h1, rfl, s1, H1, g1⟩
    have y2 : x1.v 2 = .ptr b2 0 := by rw [s1 2 (by omega)]; simp [v2]
    have y4 : x1.v 4 = .ptr b4 0 := by rw [s1 4 (by omega)]; simp [v4]
    have y9 : x1.v 9 = .ptr (h.next + 110) 0 := by rw [s1 9 (by omega)]; simp
    have y10 : x1.v 10 = D.int a := by rw [s1 10 (by omega)]; simp
    have y11 : x1.v 11 = D.int b := by rw [s1 11 (by omega)]; simp
    have y44 : x1.v 44 = clsD l := by rw [s1 44 (by omega)]; simp [v44, clsD]
    have y45 : x1.v 45 = D.int l.length := by rw [s1 45 (by omega)]; simp [v45]
    have y46 : x1.v 46 = D.int i := by rw [s1 46 (by omega)]; simp [v46]
    refine Res.step' (clm_b H1 k g1 ⟨lo1, lo2⟩ an bn _ y4 y9 y10 y11 f) ?_
    rintro _ ⟨x2, h2, rfl, s2, H2, g2⟩
    simp [s2, y46, w1]
    refine ⟨c - 1, by omega, _, _, i + 1, rfl, by omega, by simp [s2, y2], by simp [s2, y4], by simp [s2, y44], by simp [s2, y45], by simp, ?_⟩
    rw [hnext]
    have : clmI M A k = updA (updA A a b (min (A a b) k.hi)) b a (min (updA A a b (min (A a b) k.hi) b a) (-k.lo)) := by unfold clmI lowI; rw [← ha, ← hb]
    rw [this]
    exact H2.bump _
  · simp [k67l2_eq, v45, v46, hi]
    exact ⟨_, _, i, rfl, by omega, by simp [v2], by simp [v4], by simp [v44, clsD], by simp [v45], by simp [v46], hH.bump _⟩
end Go.Proofs.YtgbkdjlekfjkfaaGreatDoor
/- The document's closure: the function. -/
namespace Go.Proofs.YtgbkdjlekfjkfaaGreatDoor
open Go Go.Em Go.Em.Net
set_option maxRecDepth 100000
theorem foldl_movs (M : List Int) : ∀ (l : List Clm) (i : Nat) (A : Nat → Nat → Int), l.foldl (clmI M) A = (movsF M i l).foldl lowI A
  | [], _, _ => rfl
  | c :: l, i, A => by
    rw [movsF, List.foldl_append, List.foldl_cons, foldl_movs M l (i + 1)]
    rfl
theorem rwY_far {n j : Nat} (hj : j < n) : yCs n (rwY j n) = yCs n (farN n j) := by
  unfold yCs
  refine List.map_congr_left fun q hq => ?_
  have hq := List.mem_range.1 hq
  unfold rwY farN
  by_cases h : q = j
  · subst h; simp [hq]
  · simp [h, hq]
def k67u : Cd :=
  .seq (.draw [⟨⟨none, some 98, .inl (.ld true 2 (.s 4))⟩, some [], [.keep 4], 0, false⟩,
 ⟨⟨none, some 99, .inl (.ld true 2 (.s 4))⟩, some [], [], 0, false⟩,
 ⟨⟨none, some 100, .inr (.fn 116 [(.s 99)])⟩, none, [.av 4], 2, false⟩,
 ⟨⟨none, none, .inl (.st 2 (.s 2) (.s 98))⟩, (some [.at 2]), [], 7, false⟩,
 ⟨⟨none, some 3, .inl (.mv (.s 100))⟩, some [], [], 15, false⟩])
 (.ret)
def k67t : Cd :=
  .seq (.seq (.region [⟨none, some 44, .inl (.mv (.s 0))⟩,
 ⟨none, some 45, .inl (.len (.s 44))⟩,
 ⟨none, some 46, .inl (.mv (.c (.int .i64 0)))⟩])
 (.block 4 (.loop k56l2)))
  k67u
theorem k67_eq : k56 = .seq (.region [⟨none, some 2, .inl (.alloc 88 [(.slice none 0 0), (.slice none 0 0)])⟩,
 ⟨none, some 3, .inl (.mv (.c (.bool false)))⟩])
 (.seq (.region [⟨none, some 12, .inl (.mv (.s 0))⟩,
 ⟨none, some 13, .inr (.fn 43 [(.s 12)])⟩,
 ⟨none, some 14, .inl (.bld [(.slice none 0 0), (.slice none 0 0)] [(0, 1, (.s 13))])⟩,
 ⟨none, some 4, .inl (.alloc 88 [(.slice none 0 0), (.slice none 0 0)])⟩,
 ⟨none, none, .inl (.st 2 (.s 4) (.s 14))⟩])
 (.seq (.seq (.region [⟨none, some 15, .inl (.fa (.s 4) 0)⟩,
 ⟨none, some 16, .inl (.ld false 1 (.s 15))⟩,
 ⟨none, some 17, .inl (.len (.s 16))⟩,
 ⟨none, some 18, .inl (.mv (.c (.int .i64 0)))⟩])
 (.block 0 (.loop k56l1)))
  k67t)) := rfl
theorem keep_k {gl : Nat → Option (List D)} {base : Nat} {e : List D} {s k o n : Nat} {ag : Bool} {x : X} (h1 : rd gl e x = .ptr k o) (h2 : atId (e.getD s .junk) = some k) : keepB gl base e [.keep s] (.ld ag n x) = true := by
  have := kids_some (base := base) e s k [] h2
  simp [keepB, h1, this]
theorem dcore_cv {c : Cfg} {R : Rc} {base : Nat} (d : Option Nat) (f : FuncId) (args : List X) (s k : Nat) (wt : Nat) (e : List D) (h h' : Heap) (o : D) (hk : atId (e.getD s .junk) = some k) (hc : call c.pg R f (args.map (rd c.pg.gl e)) h = some (.ret o, h')) (hg : h'.get k = h.get k) (hcs : ∃ ty cs, h.get k = some (.cells ty cs)) :
    dcore c R base ⟨⟨none, d, .inr (.fn f args)⟩, none, [.av s], wt, false⟩ e h = some (o, h') := by
  have ha : avids base e [.av s] = [k] := by
    have := avids_some (base := base) e s k [] hk
    rw [this]; rfl
  have hs : sameAt [k] h h' = true := sameAt_iff.2 fun q hq => by
    have : q = k := by simpa using hq
    subst this
    obtain ⟨ty, cs, hcs⟩ := hcs
    rw [Heap.rdc_cells hcs, Heap.rdc_cells (hg.trans hcs)]
  unfold dcore
  simp only [G.want, Bool.false_eq_true, if_false, hc, ha, hs, Bool.or_true, if_true]
set_option maxHeartbeats 8000000 in
theorem clo_u {M : List Int} {n : Nat} (hM : M.length = n) (hn : n ≤ 64) {l : List Mo} (g : Good n l) {mb b2 b4 : Nat} {ks : List Nat} {h : Heap} (t : V2H M n (encM (EF n l)) mb b2 b4 ks h) (hb2 : b2 = 2) (x : Env 101) (v2 : x.v 2 = .ptr b2 0) (v4 : x.v 4 = .ptr b4 0) {m : Nat} (hm : 400 ≤ m) :
    ∃ B ok, endK (rc pg m) [(.cell 2 88, true, 2), (.tmp 3, false, 0)] (k67u.ev ⟨pg, 101, none⟩ (rc pg m) ⟨x.l, h, []⟩) = some (.ret (.tup [nD M B, D.bool ok])) ∧ ((ok = true ∧ B = encM (fw (EF n l) n) ∧ ∀ q, q ≤ n → ∀ i, i < n → fw (EF n l) q i i = some 0) ∨ (ok = false ∧ ∃ k i, k ≤ n ∧ i < n ∧ fw (EF n l) k i i ≠ some 0)) := by
  obtain ⟨d0, h1, e101, o1, f1, hcs⟩ := srt_sh M hM hn g none (t.mat.bump 101) (t.fr.bump 101) (f := m) (by omega)
  have s101 : pg.sh 116 = true := rfl
  have c101 := call_sh (pg := pg) s101 e101
  have hm4 := t.mat
  have typ : ∀ (b : Nat), (∃ cs, h.get b = some (.cells 88 cs)) → b ∉ ks := fun b ⟨cs, hb⟩ hk => by
    obtain ⟨j, hj, rfl⟩ := List.getElem_of_mem hk
    rw [hm4.row j hj] at hb; cases hb
  have g4 := t.g4
  have g2 := t.g2
  have n4 := t.n4
  have n2 := t.n2
  have k4 : h1.get b4 = (h.bump 101).get b4 := o1.get (by simp; omega) (typ b4 ⟨_, g4⟩)
  have k2 : h1.get b2 = some (.cells 88 [.val (.slice none 0 0), .val (.slice none 0 0)]) := by rw [o1.get (by simp; omega) (typ b2 ⟨_, g2⟩)]; simpa using g2
  have ne24 : b2 ≠ b4 := fun e => by rw [e, g4] at g2; cases g2
  have hmb2 : mb ≠ b2 := fun e => by have := hm4.top; rw [e, g2] at this; cases this
  subst hb2
  have finish : ∀ B, Mat n B mb ks h1 → ∀ ok, d0 = D.bool ok → endK (rc pg m) [(.cell 2 88, true, 2), (.tmp 3, false, 0)] (k67u.ev ⟨pg, 101, none⟩ (rc pg m) ⟨x.l, h, []⟩) = some (.ret (.tup [nD M B, D.bool ok])) := by
    intro B hB ok hok
    subst hok
    have hk2 : ∀ q, q ∈ ks → q ≠ 2 := fun q hq e => typ 2 ⟨_, g2⟩ (by rw [← e]; exact hq)
    have hB2 : Mat n B mb ks (h1.set 2 (some (.cells 88 [intsD M, .slr mb 0 n 1 none]))) := ⟨hB.len, by simp [hmb2, hB.top], hB.nd, fun q hq => by simpa using hB.lt q hq, fun j hj => by simp [hk2 _ (List.getElem_mem hj), hB.row j hj], by simpa using hB.mlt⟩
    have hz := frz_mat (d := 19) hB2
    have hx := fun H d => each_canon H d _ (ints_canonL M)
    have c100 : ∀ (y : Env 101) (b : Nat), y.v 4 = .ptr b4 0 → y.v 99 = .agg [intsD M, .slr mb 0 n 1 none] → dcore ⟨pg, 101, none⟩ (rc pg m) b ⟨⟨none, some 100, .inr (.fn 116 [.s 99])⟩, none, [.av 4], 2, false⟩ y.l (h.bump 101) = some (D.bool ok, h1) := by
      intro y b u1 u2
      exact dcore_cv _ _ _ 4 b4 _ _ _ _ _ (by simp [u1]) (by simpa [u2] using c101) k4 ⟨_, _, g4⟩
    have o1' : ∀ a b c d (e : Option Nat), D.one (.slr a b c d e) = true := fun _ _ _ _ _ => rfl
    simp only [intsD] at g4 c100 hB2 hz hx
    simp only [rowS, frz_slr, Nat.reduceAdd] at hz
    simp [hmb2] at hz
    simp [k67u, v2, v4, c100, g4, k2, keep_k (k := b4) (o := 0), D.cells, D.one, hz, hx, nD, intsD, hmb2, hM]
  rcases hcs with ⟨e0, mt, hd⟩ | ⟨e0, ⟨B, mt⟩, hne⟩
  · exact ⟨_, true, finish _ mt true e0, .inl ⟨rfl, rfl, hd⟩⟩
  · exact ⟨_, false, finish B mt false e0, .inr ⟨rfl, hne⟩⟩
theorem Res.endsD {β : Type} {F : β → Out} {o : Option (Ex × St)} {id : Nat} {k : St → Option (Ex × St)} {R : Rc} {rs : List (ResultVar × Bool × Nat)} {P : Ex → St → Prop} {C : β → Prop} (h : Res o P)
    (hk : ∀ x s, P x s → ∃ d, endK R rs (andThen (blockK id (some (x, s))) k) = some (F d) ∧ C d) : ∃ d, endK R rs (andThen (blockK id o) k) = some (F d) ∧ C d := by
  obtain ⟨x, s, rfl, p⟩ := h; exact hk x s p
set_option maxHeartbeats 8000000 in
theorem clo_t (l : List Clm) (h0 : chkF l = 0) (hlo : ∀ c, c ∈ l → -100000000000 ≤ c.lo ∧ c.lo ≤ 100000000000) {mb b2 b4 : Nat} {ks : List Nat} {h : Heap} (t : V2H (marksF l) (marksF l).length (farN (marksF l).length) mb b2 b4 ks h) (hb2 : b2 = 2) (x : Env 101) (v0 : x.v 0 = clsD l) (v2 : x.v 2 = .ptr b2 0) (v4 : x.v 4 = .ptr b4 0) {m : Nat} (hm : 1000 ≤ m) :
    ∃ B, endK (rc pg m) [(.cell 2 88, true, 2), (.tmp 3, false, 0)] (k67t.ev ⟨pg, 101, none⟩ (rc pg m) ⟨x.l, h, []⟩) = some (.ret (.tup [nD (marksF l) B, D.bool (!badF l)])) ∧ (badF l = false → B = encM (cloF l)) := by
  obtain ⟨hl1, hok, hl3⟩ := chk_ok h0
  have g := good_movs h0
  simp only [clsD] at v0
  simp [k67t, v0, ev_loop]
  refine Res.endsD (F := fun B => Out.ret (D.tup [nD (marksF l) B, D.bool (!badF l)])) (C := fun B => badF l = false → B = encM (cloF l)) (lp_rule 100 (V2 l (marksF l) (marksF l).length mb b2 b4 ks) _ (clm_round l hl1 (marksF l) (marksF l).length rfl hl3 (fun c hc => ⟨(marks_mem l c.a).2 ⟨c, hc, .inl rfl⟩, (marks_mem l c.b).2 ⟨c, hc, .inr rfl⟩, hlo c hc⟩) mb b2 b4 ks) l.length m _ (by omega) ⟨_, _, 0, rfl, by omega, by simp [v2], by simp [v4], by simp [clsD], by simp, by simp, by simpa using t.bump 101⟩) ?_
  rintro xo so ⟨rfl, x', h', i, rfl, hi, w2, w4, w44, w45, w46, hH⟩
  have hil : i = l.length := by omega
  subst hil
  have eA : (l.take l.length).foldl (clmI (marksF l)) (farN (marksF l).length) = encM (EF (marksF l).length (movsF (marksF l) 0 l)) := by
    rw [List.take_length, foldl_movs (marksF l) l 0]
    exact initI_enc _ _ (fun m hm => g.bd m hm)
  rw [eA] at hH
  obtain ⟨d, ok, e1, hc⟩ := clo_u rfl hl3 g hH hb2 x' w2 w4 (m := m) (by omega)
  refine ⟨d, ?_, ?_⟩
  · have hb : ok = !badF l := by
      rcases hc with ⟨rfl, _, hd⟩ | ⟨rfl, k, i, hk, hi, hne⟩
      · have := (bad_iff h0).2 hd
        rw [this]; rfl
      · cases hbb : badF l with
        | true => rfl
        | false => exact absurd ((bad_iff h0).1 hbb k hk i hi) hne
    rw [← hb]
    simpa using e1
  · intro hbb
    rcases hc with ⟨_, hd, _⟩ | ⟨_, k, i, hk, hi, hne⟩
    · exact hd
    · exact absurd ((bad_iff h0).1 hbb k hk i hi) hne
set_option maxHeartbeats 8000000 in
theorem rclo_run (l : List Clm) (h0 : chkF l = 0) (hl0 : l ≠ []) {f : Nat} (hf : 3000 ≤ f) : ∃ B, pureCall (rc pg f) 56 [clsD l] = some (.ret (.tup [nD (marksF l) B, D.bool (!badF l)])) ∧ (badF l = false → B = encM (cloF l)) := by
  obtain ⟨m, rfl, e⟩ := body (pg := pg) (f := 56) (args := [clsD l]) (show 0 < f by omega) rfl rfl
  rw [e]
  obtain ⟨hl1, hok, hl3⟩ := chk_ok h0
  have c61 := fun h => call_of (h := h) (pg := pg) (f := 43) rfl (cls_canon l) (rmarks_run l (by omega) (n := m) (by omega))
  simp only [clsD, intsD] at c61
  have hlo : ∀ c, c ∈ l → -100000000000 ≤ c.lo ∧ c.lo ≤ 100000000000 := fun c hc => by
    have := ok_years (hok c hc)
    omega
  have hn0 : 0 < (marksF l).length := by
    cases l with
    | nil => exact absurd rfl hl0
    | cons c l => exact List.length_pos_of_mem ((marks_mem (c :: l) c.a).2 ⟨c, List.mem_cons_self, .inl rfl⟩)
  simp [-beq_iff_eq, k67_eq, Env.v_ini, clsD, c61, D.cells, D.one, ev_loop]
  refine Res.endsD (F := fun B => Out.ret (D.tup [nD (marksF l) B, D.bool (!badF l)])) (C := fun B => badF l = false → B = encM (cloF l)) (lp_rule 100 (V1 l (marksF l) (marksF l).length 2 105) _ (rows_round l (marksF l) (marksF l).length 2 105 rfl hl3) (marksF l).length m _ (by omega) ⟨_, _, 0, [], .val (.slice none 0 0), rfl, by omega, by simp [Env.v_ini, clsD], by simp, by simp, by simp, by simp, by simp [intsD], by simp, by simp, by simp, by decide, rfl, .nil, fun q hq => (by cases hq), fun j hj => absurd hj (Nat.not_lt_zero j), .inl ⟨rfl, rfl⟩, ?_⟩) ?_
  · repeat' first | exact Heap.Fr.empty | apply Heap.Fr.bump | apply Heap.Fr.set
    all_goals first | omega | (simp <;> omega)
  · rintro xo so ⟨rfl, x', h', i, ks, d, rfl, hi, w0, w2, w4, w17, w18, g4, g2, n4, n2, ne24, hks, hnd, hkq, hrow, gy, hfr'⟩
    have hin : i = (marksF l).length := by omega
    subst hin
    rcases gy with ⟨e0, _⟩ | ⟨_, mb, rfl, gm, nmb⟩
    · omega
    have hM : Mat (marksF l).length (farN (marksF l).length) mb ks h' := ⟨hks, gm, hnd, fun q hq => ⟨hkq q hq, fun e => by
      obtain ⟨j, hj, rfl⟩ := List.getElem_of_mem hq
      have := hrow j hj
      rw [e, gm] at this; cases this⟩, fun j hj => by rw [hrow j hj, rwY_far (by omega)], nmb⟩
    obtain ⟨d, e1, e2⟩ := clo_t l h0 hlo ⟨hM, g4, g2, n4, n2, hfr'⟩ rfl x' w0 w2 w4 (m := m) (by omega)
    exact ⟨d, by simpa using e1, e2⟩
/-! ### Close, and its law -/
end Go.Proofs.YtgbkdjlekfjkfaaGreatDoor
/- The program's closure is the document's: the law, by the evaluator. -/
namespace Go.Proofs.YtgbkdjlekfjkfaaGreatDoor
open Go Go.Em Go.Em.Net
set_option maxRecDepth 100000
def nil0 : D := .val (.slice none 0 0)
theorem srt_nil {h : Heap} (hf : h.Fr) {f : Nat} (hfl : 10 ≤ f) : ∃ h', (rc pg f).fn 116 [.agg [.sl false [], nil0]] h = some (.ret (D.bool true), h') ∧ Un h h' := by
  obtain ⟨m, rfl, e⟩ := fn_body (pg := pg) (f := 116) (args := [.agg [.sl false [], nil0]]) (h := h) (show 0 < f by omega) rfl rfl
  rw [e]
  have hfr : ∀ j, h.raw (h.next + j) = none := fun j => hf _ (by omega)
  simp [k116, nil0, Env.v_ini, hfr, D.cells, D.one, ev_loop]
  suffices hS : ∃ d h', _ = some (Out.ret ((fun b : Unit => D.bool true) d), h') ∧ (fun (_ : Unit) (h' : Heap) => Un h h') d h' by
    obtain ⟨_, h', e1, c⟩ := hS
    exact ⟨h', e1, c⟩
  refine Res.tailG (F := fun _ : Unit => D.bool true) (lp_rule 0 (fun k s => k = 0 ∧ ∃ (x : Env 89) (h' : Heap), s = ⟨x.l, h', []⟩ ∧ x.v 8 = D.int 0 ∧ x.v 9 = D.int 0 ∧ Un h h') (fun x s => x = .exit 0 ∧ ∃ (x : Env 89) (h' : Heap), s = ⟨x.l, h', []⟩ ∧ Un h h') (fun n _ k s => ?_) 0 m _ (by omega) ⟨rfl, _, _, rfl, by simp, by simp, by simp <;> omega, fun q hq => by simp [show q ≠ h.next + 1 by omega]⟩) ?_
  · rintro ⟨_, x, h', rfl, v8, v9, u⟩
    simp [k116l2, v8, v9]
    exact ⟨_, _, ⟨rfl, rfl⟩, by have := u.1; simp; omega, fun q hq => by simpa using u.2 q hq⟩
  · rintro x s ⟨rfl, x, h', rfl, u⟩
    exact ⟨(), h'.bump 89, by simp, by have := u.1; simp; omega, fun q hq => by simpa using u.2 q hq⟩
def Nl0 (v2 : D) (v4 : D) (x : Env 101) (h : Heap) : Prop := x.v 0 = .sl false [] ∧ x.v 2 = .ptr 2 0 ∧ x.v 4 = .ptr 105 0 ∧ h.get 105 = some (.cells 88 [.sl false [], nil0]) ∧ h.get 2 = some (.cells 88 [nil0, nil0]) ∧ 105 < h.next ∧ h.Fr
set_option maxHeartbeats 8000000 in
theorem rclo_nil {f : Nat} (hf : 3000 ≤ f) : pureCall (rc pg f) 56 [clsD []] = some (.ret (.tup [.agg [.sl false [], .sl false []], D.bool true])) := by
  obtain ⟨m, rfl, e⟩ := body (pg := pg) (f := 56) (args := [clsD []]) (show 0 < f by omega) rfl rfl
  rw [e]
  have c61 := fun h => call_of (h := h) (pg := pg) (f := 43) rfl (cls_canon []) (rmarks_run [] (by simp) (n := m) (by simp; omega))
  have hm : marksF [] = [] := rfl
  rw [hm] at c61
  simp only [clsD, intsD, List.map_nil] at c61
  simp [-beq_iff_eq, k67_eq, Env.v_ini, clsD, c61, D.cells, D.one, ev_loop]
  refine Res.endsAfter (lp_rule 0 (fun k s => k = 0 ∧ ∃ (x : Env 101) (h' : Heap), s = ⟨x.l, h', []⟩ ∧ x.v 17 = D.int 0 ∧ x.v 18 = D.int 0 ∧ Nl0 nil0 nil0 x h') (fun x s => x = .exit 0 ∧ ∃ (x : Env 101) (h' : Heap), s = ⟨x.l, h', []⟩ ∧ Nl0 nil0 nil0 x h') (fun n _ k s => ?_) 0 m _ (by omega) ⟨rfl, _, _, rfl, by simp, by simp, by simp [Env.v_ini], by simp, by simp, by simp [nil0], by simp [nil0], by simp, ?_⟩) ?_
  · rintro ⟨_, x, h', rfl, v17, v18, u0, u2, u4, g4, g2, n4, f1⟩
    simp [k56l1, v17, v18]
    exact ⟨_, _, ⟨rfl, rfl⟩, by simp [u0], by simp [u2], by simp [u4], by simp [g4], by simp [g2], by simp; omega, f1.bump _⟩
  · repeat' first | exact Heap.Fr.empty | apply Heap.Fr.bump | apply Heap.Fr.set
    all_goals first | omega | (simp <;> omega)
  · rintro x s ⟨rfl, x, h', rfl, u0, u2, u4, g4, g2, n4, f1⟩
    simp [k67t, u0, ev_loop]
    refine Res.endsAfter (lp_rule 0 (fun k s => k = 0 ∧ ∃ (x : Env 101) (h' : Heap), s = ⟨x.l, h', []⟩ ∧ x.v 45 = D.int 0 ∧ x.v 46 = D.int 0 ∧ Nl0 nil0 nil0 x h') (fun x s => x = .exit 4 ∧ ∃ (x : Env 101) (h' : Heap), s = ⟨x.l, h', []⟩ ∧ Nl0 nil0 nil0 x h') (fun n _ k s => ?_) 0 m _ (by omega) ⟨rfl, _, _, rfl, by simp, by simp, by simp [u0], by simp [u2], by simp [u4], by simp [g4], by simp [g2], by simp; omega, f1.bump _⟩) ?_
    · rintro ⟨_, x, h', rfl, v45, v46, u0, u2, u4, g4, g2, n4, f1⟩
      simp [k67l2_eq, v45, v46]
      exact ⟨_, _, ⟨rfl, rfl⟩, by simp [u0], by simp [u2], by simp [u4], by simp [g4], by simp [g2], by simp; omega, f1.bump _⟩
    · rintro x s ⟨rfl, x, h', rfl, u0, u2, u4, g4, g2, n4, f1⟩
      obtain ⟨h1, e101, un⟩ := srt_nil (h := h'.bump 101) (f1.bump 101) (f := m) (by omega)
      have s101 : pg.sh 116 = true := rfl
      have c101 := call_sh (pg := pg) s101 e101
      have k4 : h1.get 105 = (h'.bump 101).get 105 := by unfold Heap.get; rw [un.2 105 (by first | (simp; done) | (simp; omega))]
      have k2 : h1.get 2 = some (.cells 88 [nil0, nil0]) := by
        have : h1.get 2 = (h'.bump 101).get 2 := by unfold Heap.get; rw [un.2 2 (by first | (simp; done) | (simp; omega))]
        rw [this]; simpa using g2
      have c100 : ∀ (y : Env 101) (b : Nat), y.v 4 = .ptr 105 0 → y.v 99 = .agg [.sl false [], nil0] → dcore ⟨pg, 101, none⟩ (rc pg m) b ⟨⟨none, some 100, .inr (.fn 116 [.s 99])⟩, none, [.av 4], 2, false⟩ y.l (h'.bump 101) = some (D.bool true, h1) := by
        intro y b u1 u2
        exact dcore_cv _ _ _ 4 105 _ _ _ _ _ (by simp [u1]) (by simpa [u2] using c101) k4 ⟨_, _, g4⟩
      simp only [nil0] at c100 g4 k2
      simp [k67u, u2, u4, c100, g4, k2, keep_k (k := 105) (o := 0), D.cells, D.one, nil0]
end Go.Proofs.YtgbkdjlekfjkfaaGreatDoor
