/- A run of an operation does what its small operation says: parts of slices, appends, copies. -/
import Derived.Test.YtfemldhlanoakaaDoorEmH
namespace Go.Em
open Go Go.RowKit

section
variable {a : Act} {w : World}
/-- Bounds of a slice expression, the third one too. -/
theorem run_bounds3 {P : Program} {lo hi mx : Option Operand} (sl : Bool) (n cap l h m : Nat) (hL : (lo = none ∧ (l : Int) = 0) ∨ ∃ o k, lo = some o ∧ a.eval o = .int k l) (hH : (hi = none ∧ (h : Int) = n) ∨ ∃ o k, hi = some o ∧ a.eval o = .int k h)
    (hM : (mx = none ∧ m = cap) ∨ ∃ o k, mx = some o ∧ a.eval o = .int k m) (hnm : mx.isSome = true → hi.isSome = true) (hlh : l ≤ h) (hc : h ≤ m) (hm : m ≤ cap) : (Instr.sliceBounds sl n cap (lo.map a.eval) (hi.map a.eval) (mx.map a.eval)).run P w = .ok (l, h, m) w := by
  rcases hM with ⟨rfl, rfl⟩ | ⟨om, km, rfl, hmv⟩
  · exact run_bounds sl n m l h hL hH hlh hc
  · have h1 : ¬ cap < m := by omega
    have h2 : ¬ m < h := by omega
    have h3 : ¬ h < l := by omega
    rcases hH with ⟨rfl, hv⟩ | ⟨o', kd, rfl, hv⟩
    · simp at hnm
    · rcases hL with ⟨rfl, hv'⟩ | ⟨o'', kd', rfl, hv'⟩
      · have e2 : l = 0 := by omega
        simp [Instr.sliceBounds, Instr.sliceBound, asIntOf, hv, hmv, e2, hc, hm]
      · simp [Instr.sliceBounds, Instr.sliceBound, asIntOf, hv, hv', hmv, hc, hm, hlh]
end

theorem sliceR_inv {k o sz : Nat} {c : Option Nat} {lo hi : Int} {mx : Option Int} {okTo : Int → Bool} {d : D} (h : sliceR k o sz c lo hi mx okTo = some d) :
    0 ≤ lo ∧ lo ≤ hi ∧ okTo hi = true ∧ (∀ m, mx = some m → hi ≤ m ∧ okTo m = true) ∧
    ((lo = hi ∧ 0 < lo ∧ d = .sl false []) ∨ ((lo ≠ hi ∨ lo = 0) ∧ d = .slr k (o + lo.toNat * sz) (hi.toNat - lo.toNat) sz (mxCap c lo.toNat mx))) := by
  unfold sliceR at h
  split at h
  · rename_i hc
    simp only [Bool.and_eq_true, decide_eq_true_eq] at hc
    obtain ⟨⟨⟨h1, h2⟩, h3⟩, h4⟩ := hc
    refine ⟨h1, h2, h3, fun m hm => ?_, ?_⟩
    · subst hm; simpa [mxOk] using h4
    · split at h
      · rename_i h5; cases h; exact .inl ⟨h5.1, h5.2, rfl⟩
      · rename_i h5; cases h
        refine .inr ⟨?_, rfl⟩
        by_cases h6 : lo = hi
        · right; have := fun x => h5 ⟨h6, x⟩; omega
        · exact .inl h6
  · cases h

section
variable {P : Program} {N : Nat} {o : Oper}

/-- The value of a part of a slice of the heap's. -/
theorem slr_part {K : Ctx} {k off sz b m cap : Nat} {c : Option Nat} (hl : K.loc k = some (b, m)) (hcm : cap ≤ maxLen) (hfit : off + cap * sz ≤ m) (hnone : c = none → off + cap * sz = m) (hsome : ∀ c', c = some c' → cap = c') {l h t : Nat} {mx : Option Int} (hlh : l ≤ h) (hht : h ≤ t) (htc : t ≤ cap)
    (ht : (mx = none ∧ t = cap) ∨ mx = some (t : Int)) {d : D} (hd : ((l : Int) = h ∧ 0 < (l : Int) ∧ d = .sl false []) ∨ (((l : Int) ≠ h ∨ (l : Int) = 0) ∧ d = .slr k (off + l * sz) (h - l) sz (mxCap c l mx))) :
    Den K (.slice (some (if t = l then ⟨b, off, none⟩ else (⟨b, off, none⟩ : Addr).add (l * sz))) (h - l) (t - l)) d := by
  rcases hd with ⟨e1, _, rfl⟩ | ⟨e1, rfl⟩
  · have : l = h := by omega
    subst this
    rw [Nat.sub_self]
    split <;> (try rw [addr_add]) <;> exact .sl b _ (t - l) false sz [] [] (fun x => by cases x) (by simp) (by omega) (fun x hx => by cases hx) (fun i v hi => by simp at hi) rfl .nil
  · have hadd : (if t = l then (⟨b, off, none⟩ : Addr) else (⟨b, off, none⟩ : Addr).add (l * sz)) = ⟨b, off + l * sz, none⟩ := by
      split
      · rename_i htl
        have : l = 0 := by
          rcases e1 with e1 | e1
          · omega
          · omega
        subst this; simp
      · rw [addr_add]
    rw [hadd]
    have hsub : off + l * sz + (t - l) * sz = off + t * sz := by rw [Nat.add_assoc, ← Nat.add_mul]; congr 2; omega
    have htm : t * sz ≤ cap * sz := Nat.mul_le_mul_right _ htc
    refine .slr _ _ _ _ _ _ _ _ hl (by omega) (by omega) (by omega) (fun x => ?_) (fun c' x => ?_)
    · rcases ht with ⟨rfl, rfl⟩ | rfl
      · simp only [mxCap, Option.map_eq_none_iff] at x
        have := hnone x; omega
      · cases x
    · rcases ht with ⟨rfl, rfl⟩ | rfl
      · simp only [mxCap, Option.map_eq_some_iff] at x
        obtain ⟨c0, hc0, rfl⟩ := x
        have := hsome _ hc0; omega
      · simp only [mxCap, Option.some.injEq, Int.toNat_natCast] at x; omega

theorem sound_slc {ty et : TypeId} {j : TypeInfo} {x : Operand} {lo hi mx : Option Operand} {x' : X} {lo' hi' mx' : Option X} (hop : o.op = .slice ty x lo hi mx) (hx : X.of N x = some x')
    (hlo : optX N lo = some lo') (hhi : optX N hi = some hi') (hmx : optX N mx = some mx') (hnm : mx.isSome = true → hi.isSome = true) (hu : P.underlying ty = some (.slice et)) (hj : P.info? et = some j) : MSound P N o (.slc j.size x' lo' hi' mx') := by
  refine ⟨(by rw [hop]; rfl), fun C K h h' w e a t d hP s f hq => ?_⟩
  have hden := f.rd s hx
  obtain ⟨u0, hu0⟩ : ∃ v, a.eval x = v := ⟨_, rfl⟩
  rw [hu0] at hden
  have run : ∀ (base : Option Addr) (n cap l hh m : Nat), u0 = .slice base n cap → (Instr.sliceBounds true n cap (lo.map a.eval) (hi.map a.eval) (mx.map a.eval)).run P w = .ok (l, hh, m) w →
      (execOp a.eval o).run P w = .ok (.value (.slice (if m = l then base else base.map (·.add (l * j.size))) (hh - l) (m - l))) w := fun base n cap l hh m hv hb => by
    subst hv
    simp [execOp, hop, hu0, Instr.sliceAt, Instr.slice, run_underlying hu, hb, info_size hj]
  have mxe : ∀ (mi : Int) (m : X), mx' = some m → optI C.pg.gl e (some m) 0 = some mi → ∃ o k, mx = some o ∧ a.eval o = .int k mi := fun mi m hm hv => by
    subst hm
    rcases optI_eval f s (dflt := 0) hmx hv with ⟨rfl, _⟩ | h
    · simp [optX] at hmx
    · exact h
  have mxn : mx' = none → mx = none := fun hm => by
    subst hm
    cases mx with
    | none => rfl
    | some _ => simp [optX] at hmx
  simp only [M.ev] at hq
  split at hq
  · rename_i k off n sz c hr
    rw [hr] at hden
    split at hq <;> try cases hq
    rename_i ty' cs l hh hk hl hhv
    split at hq <;> try cases hq
    rename_i hsz
    obtain ⟨rfl, hsz0⟩ := hsz
    cases hden with
    | slr _ _ _ _ b m cap _ hloc hn hcm hfit hnone hsome =>
      obtain ⟨_, us, vs, g1, g2, g3, g4⟩ := s.block hk hloc
      have okTo : ∀ i : Int, 0 ≤ i → upTo c n off j.size cs.length i = true → i.toNat ≤ cap := fun i hi0 hi => by
        simp only [upTo, Bool.or_eq_true, decide_eq_true_eq, Bool.and_eq_true] at hi
        rcases hi with hi | ⟨hi1, hi2⟩
        · omega
        · cases c with
          | none =>
            have := hnone rfl
            have hul := g2.length
            simp only [List.length_append] at g4
            have : i.toNat * j.size ≤ cap * j.size := by omega
            exact Nat.le_of_mul_le_mul_right this hsz0
          | some c' => have := hsome c' rfl; simp only [decide_eq_true_eq] at hi2; omega
      have fin : ∀ (mi : Option Int), sliceR k off j.size c l hh mi (upTo c n off j.size cs.length) = some d → ((mi = none ∧ mx = none) ∨ ∃ m0, mi = some m0 ∧ ∃ o k, mx = some o ∧ a.eval o = .int k m0) → h' = h →
          ∃ v w' K', Did P o a w v w' ∧ K.le K' ∧ Sim C K' h' w' ∧ Den K' v d := fun mi hs hmi hh' => by
        subst hh'
        obtain ⟨q1, q2, q3, q4, q5⟩ := sliceR_inv hs
        obtain ⟨l', rfl⟩ := Int.eq_ofNat_of_zero_le q1
        obtain ⟨hn', rfl⟩ := Int.eq_ofNat_of_zero_le (Int.le_trans q1 q2)
        have hhc := okTo (hn' : Int) (by omega) q3
        obtain ⟨t0, ht1, ht2, ht3, ht4⟩ : ∃ t0 : Nat, ((mi = none ∧ t0 = cap) ∨ mi = some (t0 : Int)) ∧ ((mx = none ∧ t0 = cap) ∨ ∃ o k, mx = some o ∧ a.eval o = .int k t0) ∧ hn' ≤ t0 ∧ t0 ≤ cap := by
          rcases hmi with ⟨rfl, rfl⟩ | ⟨m0, rfl, om, km, rfl, hm0⟩
          · exact ⟨cap, .inl ⟨rfl, rfl⟩, .inl ⟨rfl, rfl⟩, by simpa using hhc, Nat.le_refl _⟩
          · obtain ⟨i1, i2⟩ := q4 m0 rfl
            obtain ⟨m1, rfl⟩ := Int.eq_ofNat_of_zero_le (Int.le_trans (Int.le_trans q1 q2) i1)
            exact ⟨m1, .inr rfl, .inr ⟨om, km, rfl, hm0⟩, by omega, by have := okTo (m1 : Int) (by omega) i2; simpa using this⟩
        have hb := run_bounds3 (P := P) (a := a) (w := w) true n cap l' hn' t0 (optI_eval f s hlo hl) (optI_eval f s hhi hhv) ht2 hnm (by omega) ht3 ht4
        have hrun := run (some ⟨b, off, none⟩) n cap l' hn' t0 rfl hb
        have hif : (if t0 = l' then some (⟨b, off, none⟩ : Addr) else (some (⟨b, off, none⟩ : Addr)).map (·.add (l' * j.size))) = some (if t0 = l' then ⟨b, off, none⟩ else (⟨b, off, none⟩ : Addr).add (l' * j.size)) := by split <;> rfl
        rw [hif] at hrun
        exact still s hrun (slr_part hloc hcm hfit hnone hsome (by omega) ht3 ht4 ht1 (by simpa using q5))
      split at hq
      · simp only [Option.map_eq_some_iff, Prod.mk.injEq] at hq
        obtain ⟨d', hs, rfl, rfl⟩ := hq
        exact fin none hs (.inl ⟨rfl, mxn rfl⟩) rfl
      · rename_i m
        split at hq <;> try cases hq
        rename_i mi hmi
        simp only [Option.map_eq_some_iff, Prod.mk.injEq] at hq
        obtain ⟨d', hs, rfl, rfl⟩ := hq
        exact fin (some mi) hs (.inr ⟨mi, rfl, mxe mi m rfl hmi⟩) rfl
  · rename_i hr
    rw [hr] at hden
    split at hq <;> try cases hq
    rename_i hl hhv
    have hb := run_bounds3 (P := P) (a := a) (w := w) true 0 0 0 0 0 (optI_eval f s hlo hl) (optI_eval f s hhi hhv) (.inl ⟨mxn rfl, rfl⟩) hnm (by omega) (by omega) (by omega)
    have := run none 0 0 0 0 0 hden.val_eq hb
    simp at this
    exact still s this (.val _ rfl)
  · rename_i hno1 hno
    have hden := hden.wk
    split at hq <;> try cases hq
    rename_i z es hr
    rw [hr] at hden
    split at hq <;> try cases hq
    rename_i l hh hl hhv
    split at hq <;> try cases hq
    rename_i hc
    obtain ⟨h0, h1, h2, h3⟩ := hc
    obtain ⟨l', rfl⟩ := Int.eq_ofNat_of_zero_le h0
    obtain ⟨hn', rfl⟩ := Int.eq_ofNat_of_zero_le (Int.le_trans h0 h1)
    have hlh : l' ≤ hn' := by omega
    have hhl : hn' ≤ es.length := by omega
    have hL := optI_eval f s hlo hl
    have hH := optI_eval f s hhi hhv
    have fin : ∀ (z' : Bool), d = .sl z' ((es.drop l').take (hn' - l')) → h' = h → ((z' = false ∧ mx = none) ∨ (z' = true ∧ ∃ o k, mx = some o ∧ a.eval o = .int k hn')) → ∃ v w' K', Did P o a w v w' ∧ K.le K' ∧ Sim C K' h' w' ∧ Den K' v d := fun z' hd hh' hm => by
      subst hh' hd
      have hlen : ((es.drop l').take (hn' - l')).length = hn' - l' := by simp; omega
      have bounds : ∀ cap, es.length ≤ cap → ∃ t0, ((z' = false ∧ t0 = cap) ∨ (z' = true ∧ t0 = hn')) ∧ hn' ≤ t0 ∧ t0 ≤ cap ∧ (Instr.sliceBounds true es.length cap (lo.map a.eval) (hi.map a.eval) (mx.map a.eval)).run P w = .ok (l', hn', t0) w := fun cap hcap => by
        rcases hm with ⟨rfl, rfl⟩ | ⟨rfl, om, km, rfl, hm0⟩
        · exact ⟨cap, .inl ⟨rfl, rfl⟩, by omega, Nat.le_refl _, run_bounds3 true es.length cap l' hn' cap hL hH (.inl ⟨rfl, rfl⟩) hnm hlh (by omega) (Nat.le_refl _)⟩
        · exact ⟨hn', .inr ⟨rfl, rfl⟩, Nat.le_refl _, by omega, run_bounds3 true es.length cap l' hn' hn' hL hH (.inr ⟨om, km, rfl, hm0⟩) hnm hlh (Nat.le_refl _) (by omega)⟩
      cases hden with
      | slnil _ =>
        have hh0 : hn' = 0 := by simpa using hhl
        have hl0 : l' = 0 := by omega
        subst hh0; subst hl0
        obtain ⟨t0, ht, _, ht2, hb⟩ := bounds 0 (Nat.le_refl _)
        have ht0 : t0 = 0 := by omega
        subst ht0
        have := run none 0 0 0 0 0 rfl hb
        simp at this
        exact still s this (by simpa using Den.slnil (S := K) z')
      | sl b off cap _ sz _ us hz hn hm' hs hcl hone hdl =>
        obtain ⟨t0, ht, ht1, ht2, hb⟩ := bounds cap hn
        have hrun := run (some ⟨b, off, none⟩) es.length cap l' hn' t0 rfl hb
        have hif : (if t0 = l' then some (⟨b, off, none⟩ : Addr) else (some (⟨b, off, none⟩ : Addr)).map (·.add (l' * j.size))) = some ⟨b, if t0 = l' then off else off + l' * j.size, none⟩ := by
          split
          · rfl
          · rw [Option.map_some, addr_add]
        rw [hif] at hrun
        refine still s hrun ?_
        have hzz : z' = true → t0 - l' = hn' - l' := fun hz' => by rcases ht with ⟨h1, _⟩ | ⟨_, h1⟩ <;> simp_all
        by_cases hemp : hn' - l' = 0
        · rw [hemp, List.take_zero]
          exact .sl b _ (t0 - l') z' sz [] [] (fun x => by rw [hzz x, hemp]; rfl) (by simp) (by omega) (fun x hx => by cases hx) (fun i v hi => by simp at hi) rfl .nil
        · have hne : t0 ≠ l' := by omega
          rw [if_neg hne]
          have hszj : sz = j.size := by
            cases es with
            | nil => simp at hhl; omega
            | cons e0 es' =>
              have h4 := hs e0 (by simp)
              simp only [headOk, beq_iff_eq] at h3
              rw [← h4]; exact h3
          subst hszj
          have hflat : ((es.drop l').take (hn' - l')).flatMap D.cells = ((es.flatMap D.cells).drop (l' * j.size)).take ((hn' - l') * j.size) := flat_part hs l' (hn' - l') (by omega)
          have hd2 := (hdl.drop (l' * j.size)).take ((hn' - l') * j.size)
          rw [← hflat] at hd2
          have := Den.sl (S := K) b (off + l' * j.size) (t0 - l') z' j.size ((es.drop l').take (hn' - l')) _ (fun x => by rw [hlen]; exact hzz x) (by rw [hlen]; omega) (by omega)
            (fun x hx => hs x (List.mem_of_mem_drop (List.mem_of_mem_take hx))) (fun i v hi => ?_) (List.all_eq_true.2 fun u hu' => List.all_eq_true.1 hone u (List.mem_of_mem_drop (List.mem_of_mem_take hu'))) hd2
          · rw [hlen] at this; exact this
          · rw [List.getElem?_take] at hi
            split at hi
            · rw [List.getElem?_drop] at hi
              have := hcl _ _ hi
              rw [← Nat.add_assoc] at this; exact this
            · cases hi
    split at hq
    · cases hq
      exact fin false (by simp) rfl (.inl ⟨rfl, mxn rfl⟩)
    · rename_i m
      split at hq <;> try cases hq
      rename_i mi hmi
      split at hq <;> try cases hq
      rename_i heq
      subst heq
      exact fin true (by simp) rfl (.inr ⟨rfl, mxe _ m rfl hmi⟩)

end
end Go.Em
