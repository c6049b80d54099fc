/- The document's closure: one row of one round, in place. -/
import Derived.Test.YtlkpikdfbodhoaaDoorEnc4
import Derived.Test.YtlkpikdfbodhoaaDoorWo1
namespace Go.Proofs.YtlkpikdfbodhoaaDoor
open Go Go.Em Go.Em.Net
set_option maxRecDepth 100000
structure SrH (M : List Int) (n : Nat) (B : Nat → Nat → Int) (mb b1 : Nat) (ks : List Nat) (oc : Option Nat) (h0 h : Heap) : Prop where
  mat : Mat n B mb ks h
  only : Only ks h0 h
  box : h.get b1 = some (.cells 40 [intsD M, .slr mb 0 n 1 oc])
  bn : b1 < h.next
  bk : b1 ∉ ks
  fr : h.Fr
theorem SrH.bump {M : List Int} {n : Nat} {B : Nat → Nat → Int} {mb b1 : Nat} {ks : List Nat} {oc : Option Nat} {h0 h : Heap} (t : SrH M n B mb b1 ks oc h0 h) (z : Nat) : SrH M n B mb b1 ks oc h0 (h.bump z) :=
  ⟨t.mat.bump z, t.only.bump z, by simp [t.box], by have := t.bn; simp; omega, t.bk, t.fr.bump z⟩
theorem SrH.put {M : List Int} {n : Nat} {A B : Nat → Nat → Int} {mb b1 : Nat} {ks : List Nat} {oc : Option Nat} {h0 h : Heap} (t : SrH M n A mb b1 ks oc h0 h) {i k : Nat} (hi : i < n) (hk : ∀ hj : i < ks.length, ks[i] = k) (hB : ∀ a, a ≠ i → B a = A a) : SrH M n B mb b1 ks oc h0 (h.set k (some (.cells 3 (yCs n (B i))))) := by
  have hl := t.mat.len
  have hkm : k ∈ ks := by rw [← hk (by omega)]; exact List.getElem_mem _
  have hkn := t.mat.lt k hkm
  refine ⟨t.mat.put (B := B) hi hk (by simp) (fun q hq hk => by simp [hk]) (by simp) hB, ⟨by have := t.only.1; simp; omega, fun q h1 h2 => ?_⟩, ?_, by have := t.bn; simp; omega, t.bk, t.fr.set _ hkn.1⟩
  · have : q ≠ k := fun e => h2 (by rw [e]; exact hkm)
    simp [this, t.only.2 q h1 h2]
  · have : b1 ≠ k := fun e => t.bk (by rw [e]; exact hkm)
    simp [this, t.box]
def W0 (M : List Int) (n k i : Nat) (A : Nat → Nat → Int) (mb b1 : Nat) (ks : List Nat) (oc : Option Nat) (x0 : Env 89) (h0 : Heap) (c : Nat) (s : St) : Prop := ∃ (x : Env 89) (h : Heap) (j : Nat), s = ⟨x.l, h, []⟩ ∧ j + c = n ∧ (∀ q, q < 16 → q ≠ 5 → x.v q = x0.v q) ∧ x.v 20 = D.int n ∧ x.v 21 = D.int j ∧ SrH M n (rowR k i A j) mb b1 ks oc h0 h
set_option maxHeartbeats 8000000 in
theorem row_round (M : List Int) (n k i : Nat) (hk : k < n) (hi : i < n) (hn : n ≤ 64) (A : Nat → Nat → Int) (mb b1 : Nat) (ks : List Nat) (oc : Option Nat) (x0 : Env 89) (h0 : Heap) (v1 : x0.v 1 = .ptr b1 0) (v3 : x0.v 3 = D.int k) (v4 : x0.v 4 = D.int i) (hb : ∀ J, J ≤ n → ∀ a b, -1000000000000 ≤ rowR k i A J a b ∧ rowR k i A J a b ≤ 1000000000000) :
    ∀ f, 0 ≤ f → ∀ c s, W0 M n k i A mb b1 ks oc x0 h0 c s → Res (k66l0.ev ⟨pg, 89, none⟩ (rc pg f) s) (Rnd (W0 M n k i A mb b1 ks oc x0 h0) (fun x s => x = .exit 4 ∧ W0 M n k i A mb b1 ks oc x0 h0 0 s) c) := by
  rintro f hf c s ⟨x, h, j, rfl, hjc, sm, v20, v21, hH⟩
  have u1 := sm 1 (by omega) (by omega)
  have u3 := sm 3 (by omega) (by omega)
  have u4 := sm 4 (by omega) (by omega)
  rw [v1] at u1
  rw [v3] at u3
  rw [v4] at u4
  by_cases hj : j < n
  · obtain ⟨B, hB⟩ : ∃ B, B = rowR k i A j := ⟨_, rfl⟩
    have hBn : rowR k i A (j + 1) = stR k i B j := by rw [rowR, hB]
    have hbj := hb j (by omega)
    rw [← hB] at hH hbj
    have hm := hH.mat
    have w1 : IntKind.i64.wrap ((j : Int) + 1) = (j : Int) + 1 := wrap_i64 (by omega) (by omega)
    have w2 : IntKind.i64.wrap (B i k + B k j) = B i k + B k j := by
      have := hbj i k; have := hbj k j
      exact wrap_i64 (by omega) (by omega)
    have hfr : ∀ j, h.raw (h.next + j) = none := fun j => hH.fr _ (by omega)
    have hl := hm.len
    have hbx := hH.box
    have htop := hm.top
    obtain ⟨rk, a1, a2, a3, gk⟩ := hm.at hk
    obtain ⟨ri, b1', b2, b3, gi⟩ := hm.at hi
    obtain ⟨L, hL⟩ : ∃ L, L = ks.map (rowS n) := ⟨_, rfl⟩
    rw [← hL] at htop a1 b1'
    have hLl : L.length = n := by rw [hL]; simp [hl]
    simp only [rowS] at a1 b1'
    have i1 : i + 1 ≤ n := hi
    have k1 : k + 1 ≤ n := hk
    have j1 : j + 1 ≤ n := hj
    have hyl : ∀ y : Nat → Int, (yCs n y).length = n := yCs_len n
    have hyg : ∀ (y : Nat → Int) (h' : j < (yCs n y).length), (yCs n y)[j]'h' = D.int (y j) := fun y h' => Option.some.inj (by rw [← List.getElem?_eq_getElem h']; exact yCs_get hj)
    have hyk : ∀ (y : Nat → Int) (h' : k < (yCs n y).length), (yCs n y)[k]'h' = D.int (y k) := fun y h' => Option.some.inj (by rw [← List.getElem?_eq_getElem h']; exact yCs_get hk)
    obtain ⟨V, hV⟩ : ∃ V, V = min (B i j) (B i k + B k j) := ⟨_, rfl⟩
    have hst : (yCs n (B i)).take j ++ D.int V :: (yCs n (B i)).drop (j + 1) = yCs n (updA B i j V i) := by
      have : updA B i j V i = fun b => if b = j then V else B i b := by funext b; simp [updA]
      rw [this, ← yCs_set, List.set_eq_take_append_cons_drop, if_pos (by rw [hyl]; exact hj)]
    have o1 : ∀ a b c d (e : Option Nat), D.one (.slr a b c d e) = true := fun _ _ _ _ _ => rfl
    have o2 : ∀ a : Int, D.one (.val (.int .i64 a)) = true := fun _ => rfl
    simp only [intsD] at hbx
    by_cases f1 : B i k = 1000000000
    · have f1' : (B i k != 1000000000) = false := by simpa using f1
      have hBs : stR k i B j = B := by unfold stR; rw [if_pos (.inl f1)]
      simp [-beq_iff_eq, -bne_iff_ne, -bne_eq_false_iff_eq, k66l0, u1, u3, u4, v20, v21, hj, hk, hi, f1', hbx, htop, a1, b1', gk, gi, hLl, hyl, hyg, hyk, i1, k1, j1, o1, o2, w1, D.cells]
      refine ⟨c - 1, by omega, _, _, j + 1, rfl, by omega, fun q h1 h2 => ?_, by simp [v20], by simp, ?_⟩
      · have ne : ∀ t, 16 ≤ t → (t = q) = False := fun t ht => by simp; omega
        have ne5 : (5 = q) = False := by simp; omega
        rw [← sm q h1 h2]; simp [ne, ne5]
      · rw [hBn, hBs]
        repeat' first | exact hH | apply SrH.bump
    · have f1' : (B i k != 1000000000) = true := by simpa using f1
      by_cases f2 : B k j = 1000000000
      · have f2' : (B k j != 1000000000) = false := by simpa using f2
        have hBs : stR k i B j = B := by unfold stR; rw [if_pos (.inr f2)]
        simp [-beq_iff_eq, -bne_iff_ne, -bne_eq_false_iff_eq, k66l0, u1, u3, u4, v20, v21, hj, hk, hi, f1', f2', hbx, htop, a1, b1', gk, gi, hLl, hyl, hyg, hyk, i1, k1, j1, o1, o2, w1, D.cells]
        refine ⟨c - 1, by omega, _, _, j + 1, rfl, by omega, fun q h1 h2 => ?_, by simp [v20], by simp, ?_⟩
        · have ne : ∀ t, 16 ≤ t → (t = q) = False := fun t ht => by simp; omega
          have ne5 : (5 = q) = False := by simp; omega
          rw [← sm q h1 h2]; simp [ne, ne5]
        · rw [hBn, hBs]
          repeat' first | exact hH | apply SrH.bump
      · have f2' : (B k j != 1000000000) = true := by simpa using f2
        have hBs : stR k i B j = updA B i j V := by unfold stR; rw [if_neg (fun e => e.elim f1 f2), hV]
        simp [-beq_iff_eq, -bne_iff_ne, -bne_eq_false_iff_eq, k66l0, u1, u3, u4, v20, v21, hj, hk, hi, f1', f2', hbx, htop, a1, b1', gk, gi, hLl, hyl, hyg, hyk, i1, k1, j1, o1, o2, w1, w2, ← hV, hst, D.cells]
        refine ⟨c - 1, by omega, _, _, j + 1, rfl, by omega, fun q h1 h2 => ?_, by simp [v20], by simp, ?_⟩
        · have ne : ∀ t, 16 ≤ t → (t = q) = False := fun t ht => by simp; omega
          have ne5 : (5 = q) = False := by simp; omega
          rw [← sm q h1 h2]; simp [ne, ne5]
        · rw [hBn, hBs]
          refine SrH.bump (SrH.put ((((hH.bump _).bump _).bump _).bump _) hi b3 fun a ha => ?_) _
          funext b; simp [updA, ha]
  · simp [k66l0, v20, v21, hj]
    exact ⟨_, _, j, rfl, by omega, fun q h1 h2 => by
      have ne : ∀ t, 16 ≤ t → (t = q) = False := fun t ht => by simp; omega
      rw [← sm q h1 h2]; simp [ne], by simp [v20], by simp [v21], hH.bump _⟩
end Go.Proofs.YtlkpikdfbodhoaaDoor
/- The document's closure: one round, in place. -/
namespace Go.Proofs.YtlkpikdfbodhoaaDoor
open Go Go.Em Go.Em.Net
set_option maxRecDepth 100000
theorem Res.in3 {L : Option (Ex × St)} {i1 i2 : Nat} {E F : St → Option (Ex × St)} {P Q : Ex → St → Prop} (h : Res L P) (hk : ∀ x s, P x s → Res (andThen (blockK i1 (andThen (blockK i2 (some (x, s))) E)) F) Q) : Res (andThen (blockK i1 (andThen (blockK i2 L) E)) F) Q := by
  obtain ⟨x, s, rfl, p⟩ := h; exact hk x s p
theorem comb_diag {N : Mx} {k i : Nat} (h : N i i = some 0) : comb N k i i = some 0 ∨ ∃ z, z < 0 ∧ comb N k i i = some z := by
  unfold comb
  rw [h]
  cases N i k with
  | none => exact .inl rfl
  | some a =>
    cases N k i with
    | none => exact .inl rfl
    | some b =>
      by_cases hab : a + b < 0
      · exact .inr ⟨a + b, hab, by show some (min 0 (a + b)) = some (a + b); congr 1; omega⟩
      · exact .inl (by show some (min 0 (a + b)) = some 0; congr 1; omega)
def Bad (n mb : Nat) (ks : List Nat) (h0 : Heap) (s : St) : Prop := ∃ (x : Env 89) (h : Heap), s = ⟨x.l, h, []⟩ ∧ x.v 2 = D.bool false ∧ Only ks h0 h ∧ h.Fr ∧ ∃ B, Mat n B mb ks h
def W1 (M : List Int) (n k : Nat) (N : Mx) (mb b1 : Nat) (ks : List Nat) (oc : Option Nat) (x0 : Env 89) (h0 : Heap) (c : Nat) (s : St) : Prop := ∃ (x : Env 89) (h : Heap) (i : Nat), s = ⟨x.l, h, []⟩ ∧ i + c = n ∧ (∀ q, q < 10 → q ≠ 4 → q ≠ 5 → x.v q = x0.v q) ∧ x.v 14 = D.int n ∧ x.v 15 = D.int i ∧ SrH M n (encM (stageT n k N i)) mb b1 ks oc h0 h ∧ ∀ q, q < i → comb N k q q = some 0
set_option maxHeartbeats 8000000 in
theorem stage_round (M : List Int) (n k : Nat) (hM : M.length = n) (hk : k < n) (hn : n ≤ 64) (N : Mx) (hkk : N k k = some 0) (ho : Out n N) (hB1 : Bt N) (hB2 : Bt (comb N k)) (hdg : ∀ i, i < n → N i i = some 0) (mb b1 : Nat) (ks : List Nat) (oc : Option Nat) (x0 : Env 89) (h0 : Heap) (v1 : x0.v 1 = .ptr b1 0) (v3 : x0.v 3 = D.int k) :
    ∀ f, 100 ≤ f → ∀ c s, W1 M n k N mb b1 ks oc x0 h0 c s → Res (k66l1.ev ⟨pg, 89, none⟩ (rc pg f) s) (Rnd (W1 M n k N mb b1 ks oc x0 h0) (fun x s => (x = .exit 2 ∧ W1 M n k N mb b1 ks oc x0 h0 0 s) ∨ (x = .ret ∧ Bad n mb ks h0 s ∧ ∃ i, i < n ∧ comb N k i i ≠ some 0)) c) := by
  rintro f hf c s ⟨x, h, i, rfl, hic, sm, v14, v15, hH, hz⟩
  have u1 := sm 1 (by omega) (by omega) (by omega)
  have u3 := sm 3 (by omega) (by omega) (by omega)
  rw [v1] at u1
  rw [v3] at u3
  by_cases hi : i < n
  · obtain ⟨e1, e2⟩ := stageR_row hkk ho hk hB1 hB2 i
    obtain ⟨_, s1, s2, s3, s4⟩ := stageI_enc hkk ho hk hB1 hB2 i
    have hcI : ∀ b z, comb (stageT n k N i) k i b = some z → -100000000 ≤ z ∧ z ≤ 100000000 := fun b z hz => by
      have : comb (stageT n k N i) k i b = comb N k i b := by
        rw [stageT_eq hkk ho hk i]
        show (match (if i < i then comb N k i k else N i k), (if k < i then comb N k k b else N k b) with
          | some a, some b' => (match (if i < i then comb N k i b else N i b) with | some c => some (min c (a + b')) | none => some (a + b'))
          | _, _ => (if i < i then comb N k i b else N i b)) = _
        have e2 : (if k < i then comb N k k b else N k b) = N k b := by rw [comb_row hkk]; split <;> rfl
        rw [e2, if_neg (Nat.lt_irrefl i), if_neg (Nat.lt_irrefl i)]
        rfl
      rw [this] at hz
      exact hB2 i b z hz
    have hb : ∀ J, J ≤ n → ∀ a b, -1000000000000 ≤ rowR k i (encM (stageT n k N i)) J a b ∧ rowR k i (encM (stageT n k N i)) J a b ≤ 1000000000000 := fun J _ a b => by
      obtain ⟨r1, r2⟩ := rowR_enc s2 s1 hcI J
      rw [r1]
      exact enc_bd r2 a b
    have w1 : IntKind.i64.wrap ((i : Int) + 1) = (i : Int) + 1 := wrap_i64 (by omega) (by omega)
    have hbx := hH.box
    simp only [intsD] at hbx
    simp [k66l1, u1, u3, v14, v15, hi, hbx, ev_loop, hM]
    refine Res.in3 (lp_rule 0 (W0 M n k i (encM (stageT n k N i)) mb b1 ks oc _ h0) _ (row_round M n k i hk hi hn (encM (stageT n k N i)) mb b1 ks oc _ h0 (by simp [u1]) (by simp [u3]) (by simp) hb) n f _ (by omega) ⟨_, _, 0, rfl, by omega, fun q _ _ => rfl, by simp, by simp, ((hH.bump _).bump _).bump _⟩) ?_
    rintro xo so ⟨rfl, x', h', j, rfl, hj, sm', v20, v21, hH'⟩
    have hjn : j = n := by omega
    subst hjn
    rw [e1] at hH'
    have y1 : x'.v 1 = .ptr b1 0 := by rw [sm' 1 (by omega) (by omega)]; simp [u1]
    have y4 : x'.v 4 = D.int i := by rw [sm' 4 (by omega) (by omega)]; simp
    have y14 : x'.v 14 = D.int j := by rw [sm' 14 (by omega) (by omega)]; simp [v14]
    have y15 : x'.v 15 = D.int i := by rw [sm' 15 (by omega) (by omega)]; simp [v15]
    have smq : ∀ q, q < 10 → q ≠ 4 → q ≠ 5 → x'.v q = x0.v q := fun q h1 h2 h3 => by
      have ne : ∀ t, 10 ≤ t → (t = q) = False := fun t ht => by simp; omega
      have ne4 : (4 = q) = False := by simp; omega
      rw [sm' q (by omega) h3, ← sm q h1 h2 h3]; simp [ne, ne4]
    have hm := hH'.mat
    have hl := hm.len
    have hbx' := hH'.box
    have htop := hm.top
    obtain ⟨ri, b1', b2, b3, gi⟩ := hm.at hi
    obtain ⟨L, hL⟩ : ∃ L, L = ks.map (rowS j) := ⟨_, rfl⟩
    rw [← hL] at htop b1'
    have hLl : L.length = j := by rw [hL]; simp [hl]
    simp only [rowS] at b1'
    simp only [intsD] at hbx'
    have i1 : i + 1 ≤ j := hi
    have hyl : ∀ y : Nat → Int, (yCs j y).length = j := yCs_len j
    have hyi : ∀ (y : Nat → Int) (h' : i < (yCs j y).length), (yCs j y)[i]'h' = D.int (y i) := fun y h' => Option.some.inj (by rw [← List.getElem?_eq_getElem h']; exact yCs_get hi)
    have o1 : ∀ a b c d (e : Option Nat), D.one (.slr a b c d e) = true := fun _ _ _ _ _ => rfl
    have o2 : ∀ a : Int, D.one (.val (.int .i64 a)) = true := fun _ => rfl
    have eii : encM (stageT j k N (i + 1)) i i = enc (comb N k i i) := by show enc (stageT j k N (i + 1) i i) = _; rw [e2]
    rcases comb_diag (k := k) (hdg i hi) with hc0 | ⟨z, hz0, hc0⟩
    · have eii' : encM (stageT j k N (i + 1)) i i = 0 := by rw [eii, hc0]; rfl
      simp [k66l1, y1, y4, y14, y15, hbx', htop, b1', gi, hLl, hyl, hyi, i1, hi, o1, o2, w1, eii', D.cells]
      refine ⟨c - 1, by omega, _, _, i + 1, rfl, by omega, fun q h1 h2 h3 => ?_, by simp [y14], by simp, (hH'.bump _).bump _, fun q hq => ?_⟩
      · have ne : ∀ t, 10 ≤ t → (t = q) = False := fun t ht => by simp; omega
        rw [← smq q h1 h2 h3]; simp [ne]
      · rcases Nat.lt_or_eq_of_le (Nat.le_of_lt_succ hq) with h1 | h1
        · exact hz q h1
        · subst h1; exact hc0
    · have eii' : encM (stageT j k N (i + 1)) i i = z := by rw [eii, hc0]; rfl
      simp [k66l1, y1, y4, y14, y15, hbx', htop, b1', gi, hLl, hyl, hyi, i1, hi, o1, o2, w1, eii', hz0, D.cells]
      exact ⟨⟨_, _, rfl, by simp, by first | exact (hH'.bump _).only | exact ((hH'.bump _).bump _).only, by first | exact (hH'.bump _).fr | exact ((hH'.bump _).bump _).fr, _, by first | exact (hH'.bump _).mat | exact ((hH'.bump _).bump _).mat⟩, i, hi, by rw [hc0]; simp; omega⟩
  · simp [k66l1, v14, v15, hi]
    refine ⟨_, _, i, rfl, by omega, fun q h1 h2 h3 => ?_, by simp [v14], by simp [v15], hH.bump _, hz⟩
    have ne : ∀ t, 10 ≤ t → (t = q) = False := fun t ht => by simp; omega
    rw [← sm q h1 h2 h3]; simp [ne]
end Go.Proofs.YtlkpikdfbodhoaaDoor
/- The document's closure: all rounds, in place. -/
namespace Go.Proofs.YtlkpikdfbodhoaaDoor
open Go Go.Em Go.Em.Net
set_option maxRecDepth 100000
theorem Res.in4 {L : Option (Ex × St)} {i1 i2 : Nat} {F : St → Option (Ex × St)} {P Q : Ex → St → Prop} (h : Res L P) (hk : ∀ x s, P x s → Res (andThen (blockK i1 (blockK i2 (some (x, s)))) F) Q) : Res (andThen (blockK i1 (blockK i2 L)) F) Q := by
  obtain ⟨x, s, rfl, p⟩ := h; exact hk x s p
def W2 (M : List Int) (n : Nat) (E : Mx) (mb b1 : Nat) (ks : List Nat) (oc : Option Nat) (h0 : Heap) (c : Nat) (s : St) : Prop := ∃ (x : Env 89) (h : Heap) (k : Nat), s = ⟨x.l, h, []⟩ ∧ k + c = n ∧ x.v 1 = .ptr b1 0 ∧ x.v 8 = D.int n ∧ x.v 9 = D.int k ∧ SrH M n (encM (fw E k)) mb b1 ks oc h0 h ∧ ∀ q, q ≤ k → ∀ i, i < n → fw E q i i = some 0
end Go.Proofs.YtlkpikdfbodhoaaDoor
/- The document's closure: the function that lowers the numbers. -/
namespace Go.Proofs.YtlkpikdfbodhoaaDoor
open Go Go.Em Go.Em.Net
set_option maxRecDepth 100000
end Go.Proofs.YtlkpikdfbodhoaaDoor
/- The document's closure: the rows before the claims. -/
namespace Go.Proofs.YtlkpikdfbodhoaaDoor
open Go Go.Em Go.Em.Net
set_option maxRecDepth 100000
def rwY (i J : Nat) : Nat → Int := fun b => if b < J ∧ b ≠ i then 1000000000 else 0
def GY (ty len : Nat) (cs : List D) (h : Heap) (d : D) : Prop := (len = 0 ∧ d = .val (.slice none 0 0)) ∨ 0 < len ∧ ∃ k, d = .slr k 0 len 1 none ∧ h.get k = some (.cells ty cs) ∧ k < h.next
def V1 (l : List Clm) (M : List Int) (n b2 b4 : Nat) (c : Nat) (s : St) : Prop := ∃ (x : Env 101) (h : Heap) (i : Nat) (ks : List Nat) (d : D), s = ⟨x.l, h, []⟩ ∧ i + c = n ∧ x.v 0 = clsD l ∧ x.v 2 = .ptr b2 0 ∧ x.v 4 = .ptr b4 0 ∧ x.v 17 = D.int n ∧ x.v 18 = D.int i ∧ h.get b4 = some (.cells 40 [intsD M, d]) ∧ h.get b2 = some (.cells 40 [.val (.slice none 0 0), .val (.slice none 0 0)]) ∧ b4 < h.next ∧ b2 < h.next ∧ b2 ≠ b4 ∧ ks.length = i ∧ ks.Nodup ∧ (∀ q ∈ ks, q < h.next) ∧ (∀ j, ∀ hj : j < ks.length, h.get ks[j] = some (.cells 3 (yCs n (rwY j n)))) ∧ GY 31 i (ks.map (rowS n)) h d ∧ h.Fr
end Go.Proofs.YtlkpikdfbodhoaaDoor
