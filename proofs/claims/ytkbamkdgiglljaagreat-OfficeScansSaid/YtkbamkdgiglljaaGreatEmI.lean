/- A run of an operation does what its small operation says: parts of slices, appends, copies. -/
import Derived.Test.YtkbamkdgiglljaaGreatEmH
import Derived.Deep.AppendSrc
import Derived.ChangeKeysEq
namespace Go.Em
open Go Go.RowKit

section
variable {a : Act} {w : World}
theorem run_bounds3 {P : Program} {lo hi mx : Option Operand} (sl : Bool) (n cap l h m : Nat) (hL : (lo = none ∧ (l : Int) = 0) ∨ ∃ o k, lo = some o ∧ a.eval o = .int k l) (hH : (hi = none ∧ (h : Int) = n) ∨ ∃ o k, hi = some o ∧ a.eval o = .int k h)
    (hM : (mx = none ∧ m = cap) ∨ ∃ o k, mx = some o ∧ a.eval o = .int k m) (hnm : mx.isSome = true → hi.isSome = true) (hlh : l ≤ h) (hc : h ≤ m) (hm : m ≤ cap) : (Instr.sliceBounds sl n cap (lo.map a.eval) (hi.map a.eval) (mx.map a.eval)).run P w = .ok (l, h, m) w := by
  rcases hM with ⟨rfl, rfl⟩ | ⟨om, km, rfl, hmv⟩
  · exact run_bounds sl n m l h hL hH hlh hc
  · have h1 : ¬ cap < m := by omega
    have h2 : ¬ m < h := by omega
    have h3 : ¬ h < l := by omega
    rcases hH with ⟨rfl, hv⟩ | ⟨o', kd, rfl, hv⟩
    · simp at hnm
    · rcases hL with ⟨rfl, hv'⟩ | ⟨o'', kd', rfl, hv'⟩
      · have e2 : l = 0 := by omega
        simp [Instr.sliceBounds, Instr.sliceBound, asIntOf, hv, hmv, e2, hc, hm]
      · simp [Instr.sliceBounds, Instr.sliceBound, asIntOf, hv, hv', hmv, hc, hm, hlh]
end

theorem sliceR_inv {k o sz : Nat} {c : Option Nat} {lo hi : Int} {mx : Option Int} {okTo : Int → Bool} {d : D} (h : sliceR k o sz c lo hi mx okTo = some d) :
    0 ≤ lo ∧ lo ≤ hi ∧ okTo hi = true ∧ (∀ m, mx = some m → hi ≤ m ∧ okTo m = true) ∧
    ((lo = hi ∧ 0 < lo ∧ d = .sl false []) ∨ ((lo ≠ hi ∨ lo = 0) ∧ d = .slr k (o + lo.toNat * sz) (hi.toNat - lo.toNat) sz (mxCap c lo.toNat mx))) := by
  unfold sliceR at h
  split at h
  · rename_i hc
    simp only [Bool.and_eq_true, decide_eq_true_eq] at hc
    obtain ⟨⟨⟨h1, h2⟩, h3⟩, h4⟩ := hc
    refine ⟨h1, h2, h3, fun m hm => ?_, ?_⟩
    · subst hm; simpa [mxOk] using h4
    · split at h
      · rename_i h5; cases h; exact .inl ⟨h5.1, h5.2, rfl⟩
      · rename_i h5; cases h
        refine .inr ⟨?_, rfl⟩
        by_cases h6 : lo = hi
        · right; have := fun x => h5 ⟨h6, x⟩; omega
        · exact .inl h6
  · cases h

section
variable {P : Program} {N : Nat} {o : Oper}

theorem slr_part {K : Ctx} {k off sz b m cap : Nat} {c : Option Nat} (hl : K.loc k = some (b, m)) (hcm : cap ≤ maxLen) (hfit : off + cap * sz ≤ m) (hnone : c = none → off + cap * sz = m) (hsome : ∀ c', c = some c' → cap = c') {l h t : Nat} {mx : Option Int} (hlh : l ≤ h) (hht : h ≤ t) (htc : t ≤ cap)
    (ht : (mx = none ∧ t = cap) ∨ mx = some (t : Int)) {d : D} (hd : ((l : Int) = h ∧ 0 < (l : Int) ∧ d = .sl false []) ∨ (((l : Int) ≠ h ∨ (l : Int) = 0) ∧ d = .slr k (off + l * sz) (h - l) sz (mxCap c l mx))) :
    Den K (.slice (some (if t = l then ⟨b, off, none⟩ else (⟨b, off, none⟩ : Addr).add (l * sz))) (h - l) (t - l)) d := by
  rcases hd with ⟨e1, _, rfl⟩ | ⟨e1, rfl⟩
  · have : l = h := by omega
    subst this
    rw [Nat.sub_self]
    split <;> (try rw [addr_add]) <;> exact .sl b _ (t - l) false sz [] [] (fun x => by cases x) (by simp) (by omega) (fun x hx => by cases hx) (fun i v hi => by simp at hi) rfl .nil
  · have hadd : (if t = l then (⟨b, off, none⟩ : Addr) else (⟨b, off, none⟩ : Addr).add (l * sz)) = ⟨b, off + l * sz, none⟩ := by
      split
      · rename_i htl
        have : l = 0 := by
          rcases e1 with e1 | e1
          · omega
          · omega
        subst this; simp
      · rw [addr_add]
    rw [hadd]
    have hsub : off + l * sz + (t - l) * sz = off + t * sz := by rw [Nat.add_assoc, ← Nat.add_mul]; congr 2; omega
    have htm : t * sz ≤ cap * sz := Nat.mul_le_mul_right _ htc
    refine .slr _ _ _ _ _ _ _ _ hl (by omega) (by omega) (by omega) (fun x => ?_) (fun c' x => ?_)
    · rcases ht with ⟨rfl, rfl⟩ | rfl
      · simp only [mxCap, Option.map_eq_none_iff] at x
        have := hnone x; omega
      · cases x
    · rcases ht with ⟨rfl, rfl⟩ | rfl
      · simp only [mxCap, Option.map_eq_some_iff] at x
        obtain ⟨c0, hc0, rfl⟩ := x
        have := hsome _ hc0; omega
      · simp only [mxCap, Option.some.injEq, Int.toNat_natCast] at x; omega

theorem sound_slc {ty et : TypeId} {j : TypeInfo} {x : Operand} {lo hi mx : Option Operand} {x' : X} {lo' hi' mx' : Option X} (hop : o.op = .slice ty x lo hi mx) (hx : X.of N x = some x')
    (hlo : optX N lo = some lo') (hhi : optX N hi = some hi') (hmx : optX N mx = some mx') (hnm : mx.isSome = true → hi.isSome = true) (hu : P.underlying ty = some (.slice et)) (hj : P.info? et = some j) : MSound P N o (.slc j.size x' lo' hi' mx') := by
  refine ⟨(by rw [hop]; rfl), fun C K h h' w e a t d hP s f hq => ?_⟩
  have hden := f.rd s hx
  obtain ⟨u0, hu0⟩ : ∃ v, a.eval x = v := ⟨_, rfl⟩
  rw [hu0] at hden
  have run : ∀ (base : Option Addr) (n cap l hh m : Nat), u0 = .slice base n cap → (Instr.sliceBounds true n cap (lo.map a.eval) (hi.map a.eval) (mx.map a.eval)).run P w = .ok (l, hh, m) w →
      (execOp a.eval o).run P w = .ok (.value (.slice (if m = l then base else base.map (·.add (l * j.size))) (hh - l) (m - l))) w := fun base n cap l hh m hv hb => by
    subst hv
    simp [execOp, hop, hu0, Instr.sliceAt, Instr.slice, run_underlying hu, hb, info_size hj]
  have mxe : ∀ (mi : Int) (m : X), mx' = some m → optI C.pg.gl e (some m) 0 = some mi → ∃ o k, mx = some o ∧ a.eval o = .int k mi := fun mi m hm hv => by
    subst hm
    rcases optI_eval f s (dflt := 0) hmx hv with ⟨rfl, _⟩ | h
    · simp [optX] at hmx
    · exact h
  have mxn : mx' = none → mx = none := fun hm => by
    subst hm
    cases mx with
    | none => rfl
    | some _ => simp [optX] at hmx
  simp only [M.ev] at hq
  split at hq
  · rename_i k off n sz c hr
    rw [hr] at hden
    split at hq <;> try cases hq
    rename_i cs l hh hk hl hhv
    split at hq <;> try cases hq
    rename_i hsz
    obtain ⟨rfl, hsz0⟩ := hsz
    cases hden with
    | slr _ _ _ _ b m cap _ hloc hn hcm hfit hnone hsome =>
      obtain ⟨us, g1, g2, g3, g4⟩ := s.rblock hk hloc
      have okTo : ∀ i : Int, 0 ≤ i → upTo c n off j.size cs.length i = true → i.toNat ≤ cap := fun i hi0 hi => by
        simp only [upTo, Bool.or_eq_true, decide_eq_true_eq, Bool.and_eq_true] at hi
        rcases hi with hi | ⟨hi1, hi2⟩
        · omega
        · cases c with
          | none =>
            have := hnone rfl
            have hul := g2.length
            have : i.toNat * j.size ≤ cap * j.size := by omega
            exact Nat.le_of_mul_le_mul_right this hsz0
          | some c' => have := hsome c' rfl; simp only [decide_eq_true_eq] at hi2; omega
      have fin : ∀ (mi : Option Int), sliceR k off j.size c l hh mi (upTo c n off j.size cs.length) = some d → ((mi = none ∧ mx = none) ∨ ∃ m0, mi = some m0 ∧ ∃ o k, mx = some o ∧ a.eval o = .int k m0) → h' = h →
          ∃ v w' K', Did P o a w v w' ∧ K.le K' ∧ Sim C K' h' w' ∧ Den K' v d := fun mi hs hmi hh' => by
        subst hh'
        obtain ⟨q1, q2, q3, q4, q5⟩ := sliceR_inv hs
        obtain ⟨l', rfl⟩ := Int.eq_ofNat_of_zero_le q1
        obtain ⟨hn', rfl⟩ := Int.eq_ofNat_of_zero_le (Int.le_trans q1 q2)
        have hhc := okTo (hn' : Int) (by omega) q3
        obtain ⟨t0, ht1, ht2, ht3, ht4⟩ : ∃ t0 : Nat, ((mi = none ∧ t0 = cap) ∨ mi = some (t0 : Int)) ∧ ((mx = none ∧ t0 = cap) ∨ ∃ o k, mx = some o ∧ a.eval o = .int k t0) ∧ hn' ≤ t0 ∧ t0 ≤ cap := by
          rcases hmi with ⟨rfl, rfl⟩ | ⟨m0, rfl, om, km, rfl, hm0⟩
          · exact ⟨cap, .inl ⟨rfl, rfl⟩, .inl ⟨rfl, rfl⟩, by simpa using hhc, Nat.le_refl _⟩
          · obtain ⟨i1, i2⟩ := q4 m0 rfl
            obtain ⟨m1, rfl⟩ := Int.eq_ofNat_of_zero_le (Int.le_trans (Int.le_trans q1 q2) i1)
            exact ⟨m1, .inr rfl, .inr ⟨om, km, rfl, hm0⟩, by omega, by have := okTo (m1 : Int) (by omega) i2; simpa using this⟩
        have hb := run_bounds3 (P := P) (a := a) (w := w) true n cap l' hn' t0 (optI_eval f s hlo hl) (optI_eval f s hhi hhv) ht2 hnm (by omega) ht3 ht4
        have hrun := run (some ⟨b, off, none⟩) n cap l' hn' t0 rfl hb
        have hif : (if t0 = l' then some (⟨b, off, none⟩ : Addr) else (some (⟨b, off, none⟩ : Addr)).map (·.add (l' * j.size))) = some (if t0 = l' then ⟨b, off, none⟩ else (⟨b, off, none⟩ : Addr).add (l' * j.size)) := by split <;> rfl
        rw [hif] at hrun
        exact still s hrun (slr_part hloc hcm hfit hnone hsome (by omega) ht3 ht4 ht1 (by simpa using q5))
      split at hq
      · simp only [Option.map_eq_some_iff, Prod.mk.injEq] at hq
        obtain ⟨d', hs, rfl, rfl⟩ := hq
        exact fin none hs (.inl ⟨rfl, mxn rfl⟩) rfl
      · rename_i m
        split at hq <;> try cases hq
        rename_i mi hmi
        simp only [Option.map_eq_some_iff, Prod.mk.injEq] at hq
        obtain ⟨d', hs, rfl, rfl⟩ := hq
        exact fin (some mi) hs (.inr ⟨mi, rfl, mxe mi m rfl hmi⟩) rfl
  · rename_i hr
    rw [hr] at hden
    split at hq <;> try cases hq
    rename_i hl hhv
    have hb := run_bounds3 (P := P) (a := a) (w := w) true 0 0 0 0 0 (optI_eval f s hlo hl) (optI_eval f s hhi hhv) (.inl ⟨mxn rfl, rfl⟩) hnm (by omega) (by omega) (by omega)
    have := run none 0 0 0 0 0 hden.val_eq hb
    simp at this
    exact still s this (.val _ rfl)
  · rename_i hno1 hno
    have hden := hden.wk
    split at hq <;> try cases hq
    rename_i z es hr
    rw [hr] at hden
    split at hq <;> try cases hq
    rename_i l hh hl hhv
    split at hq <;> try cases hq
    rename_i hc
    obtain ⟨h0, h1, h2, h3⟩ := hc
    obtain ⟨l', rfl⟩ := Int.eq_ofNat_of_zero_le h0
    obtain ⟨hn', rfl⟩ := Int.eq_ofNat_of_zero_le (Int.le_trans h0 h1)
    have hlh : l' ≤ hn' := by omega
    have hhl : hn' ≤ es.length := by omega
    have hL := optI_eval f s hlo hl
    have hH := optI_eval f s hhi hhv
    have fin : ∀ (z' : Bool), d = .sl z' ((es.drop l').take (hn' - l')) → h' = h → ((z' = false ∧ mx = none) ∨ (z' = true ∧ ∃ o k, mx = some o ∧ a.eval o = .int k hn')) → ∃ v w' K', Did P o a w v w' ∧ K.le K' ∧ Sim C K' h' w' ∧ Den K' v d := fun z' hd hh' hm => by
      subst hh' hd
      have hlen : ((es.drop l').take (hn' - l')).length = hn' - l' := by simp; omega
      have bounds : ∀ cap, es.length ≤ cap → ∃ t0, ((z' = false ∧ t0 = cap) ∨ (z' = true ∧ t0 = hn')) ∧ hn' ≤ t0 ∧ t0 ≤ cap ∧ (Instr.sliceBounds true es.length cap (lo.map a.eval) (hi.map a.eval) (mx.map a.eval)).run P w = .ok (l', hn', t0) w := fun cap hcap => by
        rcases hm with ⟨rfl, rfl⟩ | ⟨rfl, om, km, rfl, hm0⟩
        · exact ⟨cap, .inl ⟨rfl, rfl⟩, by omega, Nat.le_refl _, run_bounds3 true es.length cap l' hn' cap hL hH (.inl ⟨rfl, rfl⟩) hnm hlh (by omega) (Nat.le_refl _)⟩
        · exact ⟨hn', .inr ⟨rfl, rfl⟩, Nat.le_refl _, by omega, run_bounds3 true es.length cap l' hn' hn' hL hH (.inr ⟨om, km, rfl, hm0⟩) hnm hlh (Nat.le_refl _) (by omega)⟩
      cases hden with
      | slnil _ =>
        have hh0 : hn' = 0 := by simpa using hhl
        have hl0 : l' = 0 := by omega
        subst hh0; subst hl0
        obtain ⟨t0, ht, _, ht2, hb⟩ := bounds 0 (Nat.le_refl _)
        have ht0 : t0 = 0 := by omega
        subst ht0
        have := run none 0 0 0 0 0 rfl hb
        simp at this
        exact still s this (by simpa using Den.slnil (S := K) z')
      | slw a0 cap _ hz hm' =>
        have hh0 : hn' = 0 := by simpa using hhl
        have hl0 : l' = 0 := by omega
        subst hh0; subst hl0
        obtain ⟨t0, ht, _, ht2, hb⟩ := bounds cap (Nat.zero_le _)
        have hrun := run (some a0) 0 cap 0 0 t0 rfl hb
        have hif : (if t0 = 0 then some a0 else (some a0).map (·.add (0 * j.size))) = some a0 := by
          split
          · rfl
          · simp [Addr.add]
        rw [hif] at hrun
        refine still s hrun ?_
        have := Den.slw (S := K) a0 (t0 - 0) z' (fun hz' => by rcases ht with ⟨h1, _⟩ | ⟨_, h1⟩ <;> simp_all) (by omega)
        simpa using this
      | sl b off cap _ sz _ us hz hn hm' hs hcl hone hdl =>
        obtain ⟨t0, ht, ht1, ht2, hb⟩ := bounds cap hn
        have hrun := run (some ⟨b, off, none⟩) es.length cap l' hn' t0 rfl hb
        have hif : (if t0 = l' then some (⟨b, off, none⟩ : Addr) else (some (⟨b, off, none⟩ : Addr)).map (·.add (l' * j.size))) = some ⟨b, if t0 = l' then off else off + l' * j.size, none⟩ := by
          split
          · rfl
          · rw [Option.map_some, addr_add]
        rw [hif] at hrun
        refine still s hrun ?_
        have hzz : z' = true → t0 - l' = hn' - l' := fun hz' => by rcases ht with ⟨h1, _⟩ | ⟨_, h1⟩ <;> simp_all
        by_cases hemp : hn' - l' = 0
        · rw [hemp, List.take_zero]
          exact .sl b _ (t0 - l') z' sz [] [] (fun x => by rw [hzz x, hemp]; rfl) (by simp) (by omega) (fun x hx => by cases hx) (fun i v hi => by simp at hi) rfl .nil
        · have hne : t0 ≠ l' := by omega
          rw [if_neg hne]
          have hszj : sz = j.size := by
            cases es with
            | nil => simp at hhl; omega
            | cons e0 es' =>
              have h4 := hs e0 (by simp)
              simp only [headOk, beq_iff_eq] at h3
              rw [← h4]; exact h3
          subst hszj
          have hflat : ((es.drop l').take (hn' - l')).flatMap D.cells = ((es.flatMap D.cells).drop (l' * j.size)).take ((hn' - l') * j.size) := flat_part hs l' (hn' - l') (by omega)
          have hd2 := (hdl.drop (l' * j.size)).take ((hn' - l') * j.size)
          rw [← hflat] at hd2
          have := Den.sl (S := K) b (off + l' * j.size) (t0 - l') z' j.size ((es.drop l').take (hn' - l')) _ (fun x => by rw [hlen]; exact hzz x) (by rw [hlen]; omega) (by omega)
            (fun x hx => hs x (List.mem_of_mem_drop (List.mem_of_mem_take hx))) (fun i v hi => ?_) (List.all_eq_true.2 fun u hu' => List.all_eq_true.1 hone u (List.mem_of_mem_drop (List.mem_of_mem_take hu'))) hd2
          · rw [hlen] at this; exact this
          · rw [List.getElem?_take] at hi
            split at hi
            · rw [List.getElem?_drop] at hi
              have := hcl _ _ hi
              rw [← Nat.add_assoc] at this; exact this
            · cases hi
    split at hq
    · cases hq
      exact fin false (by simp) rfl (.inl ⟨rfl, mxn rfl⟩)
    · rename_i m
      split at hq <;> try cases hq
      rename_i mi hmi
      split at hq <;> try cases hq
      rename_i heq
      subst heq
      exact fin true (by simp) rfl (.inr ⟨rfl, mxe _ m rfl hmi⟩)

end
end Go.Em
/- A run of an operation does what its small operation says: appends and copies. -/
namespace Go.Em
open Go Go.RowKit

theorem src_den {C : Cx} {K : Ctx} {h : Heap} {w : World} {P : Program} (s : Sim C K h w) {sz m : Nat} {tx : TypeId} {y : D} {v : Value} {ds : List D} (hk : (∃ e', P.underlying tx = some (.slice e')) ∨ P.underlying tx = some .string) (hd : Den K v y) (hs : src h sz y = some (m, ds)) :
    ∃ news, Src P sz tx v m news w ∧ DenL K news ds := by
  unfold src at hs
  split at hs <;> try (cases hs; done)
  rotate_left 2
  · rename_i st
    split at hs <;> try cases hs
    rename_i hsz
    subst hsz
    have := hd.val_eq
    subst this
    refine ⟨byteCells st, ⟨hk, fun _ => rfl, firstCells_string st w, firstCells_string st w.drew, by rw [byteCells_length, Nat.mul_one], fun u hu => by obtain ⟨_, _, rfl⟩ := List.mem_map.1 hu; rfl⟩, ?_⟩
    have : bytesD st = (byteCells st).map .val := by simp [bytesD, byteCells]
    rw [this]
    exact vals_den (List.all_eq_true.2 fun u hu => by obtain ⟨_, _, rfl⟩ := List.mem_map.1 hu; rfl)
  · rename_i z es
    split at hs <;> try cases hs
    rename_i hall
    have hsz : ∀ e, e ∈ es → e.cells.length = sz := fun e he => by simpa using List.all_eq_true.1 hall e he
    cases hd with
    | slnil _ => exact ⟨[], ⟨hk, fun _ => rfl, run_firstCells_none w sz 0 0 0, run_firstCells_none w.drew sz 0 0 0, by simp, fun _ h => by cases h⟩, .nil⟩
    | slw a0 cap _ hz hm => exact ⟨[], ⟨hk, fun _ => rfl, run_firstCells_some w sz 0 a0 0 cap [] (by simp) (fun j u hj => by simp at hj), run_firstCells_some w.drew sz 0 a0 0 cap [] (by simp) (fun j u hj => by simp at hj), by simp, fun _ h => by cases h⟩, .nil⟩
    | sl b off cap _ sz' _ us hz hn hm hs' hcl hone hdl =>
      have hul : us.length = es.length * sz := by rw [hdl.length, flat_len hsz]
      have hcell : ∀ j u, us[j]? = some u → w.cell? ((⟨b, off, none⟩ : Addr).add j) = some u := fun j u hj => by rw [addr_add]; exact (s.cells _ _ _ (hcl j u hj)).2
      exact ⟨us, ⟨hk, fun _ => rfl, run_firstCells_some w sz es.length ⟨b, off, none⟩ es.length cap us hul hcell, run_firstCells_some w.drew sz es.length ⟨b, off, none⟩ es.length cap us hul (by simpa using hcell), hul, fun u hu => List.all_eq_true.1 hone u hu⟩, hdl⟩
  · rename_i k off n sz' c
    split at hs <;> try cases hs
    rename_i cs hkk
    split at hs <;> try cases hs
    rename_i hc
    obtain ⟨rfl, hle⟩ := hc
    cases hd with
    | slr _ _ _ _ b mm cap _ hl _ _ _ _ _ =>
      obtain ⟨us, g1, g2, g3, g4⟩ := s.rblock hkk hl
      have hul := g2.length
      have hl2 : ((us.drop off).take (m * sz')).length = m * sz' := by simp; omega
      have hcell : ∀ j u, ((us.drop off).take (m * sz'))[j]? = some u → w.cell? ((⟨b, off, none⟩ : Addr).add j) = some u := fun j u hj => by
        rw [addr_add]
        rw [List.getElem?_take] at hj
        split at hj
        · rw [List.getElem?_drop] at hj; exact g1 _ _ hj
        · cases hj
      exact ⟨_, ⟨hk, fun _ => rfl, run_firstCells_some w sz' m ⟨b, off, none⟩ m cap _ hl2 hcell, run_firstCells_some w.drew sz' m ⟨b, off, none⟩ m cap _ hl2 (by simpa using hcell), hl2, fun u hu => List.all_eq_true.1 g3 u (List.mem_of_mem_drop (List.mem_of_mem_take hu))⟩, (g2.drop off).take _⟩

section
variable {P : Program} {w : World}
theorem run_append_zero (t tx ty e : TypeId) (i : TypeInfo) (ht : P.underlying t = some (.slice e)) (hi : P.info? e = some i) (base : Option Addr) (sLen sCap : Nat) (x : Value) (hs : Src P i.size tx x 0 [] w) (hle : sLen ≤ sCap) :
    (Builtin.append_ #[t, tx] ty #[.slice base sLen sCap, x]).run P w = .ok (.slice base sLen sCap) w := by
  rcases hs.kind with ⟨e', hk⟩ | hk <;> cases base <;> simp [Builtin.append_, run_underlying ht, run_underlying hk, sizeOf, typeInfo, hi, hs.len, hle, hs.cells, storeCells]
theorem run_append_in (t tx ty e : TypeId) (i : TypeInfo) (ht : P.underlying t = some (.slice e)) (hi : P.info? e = some i) (b off sLen sCap : Nat) (x : Value) (n : Nat) (news : List Value) (hs : Src P i.size tx x n news w)
    (hroom : sLen + n ≤ sCap) {w' : World} (hst : (storeCells ⟨b, off + sLen * i.size, none⟩ news).run P w = .ok () w') :
    (Builtin.append_ #[t, tx] ty #[.slice (some ⟨b, off, none⟩) sLen sCap, x]).run P w = .ok (.slice (some ⟨b, off, none⟩) (sLen + n) sCap) w' := by
  rcases hs.kind with ⟨e', hk⟩ | hk <;> simp [Builtin.append_, run_underlying ht, run_underlying hk, sizeOf, typeInfo, hi, hs.len, hroom, hs.cells, Addr.add_lit, hst]
end

theorem zeroCells_one {z : Array Value} {n : Nat} : (Builtin.zeroCells z n).size = n * z.size := by simp [Builtin.zeroCells]

section
variable {C : Cx} {K : Ctx} {h h' : Heap} {w : World} {P : Program}

theorem append_new (s : Sim C K h w) {t0 tx ty e : TypeId} {i : TypeInfo} {z : Value} (ht : P.underlying t0 = some (.slice e)) (hi : P.info? e = some i) (hz : i.zero = some z) (hzs : z.cells.size = i.size)
    (base : Option Addr) (sLen sCap : Nat) {olds : List Value} {os : List D} (hol : olds.length = sLen * i.size) (hold : (Builtin.firstCells i.size sLen (.slice base sLen sCap)).run P w.drew = .ok olds.toArray w.drew) (hod : DenL K olds os) (ho1 : olds.all (·.oneCell') = true)
    {x : Value} {n : Nat} {news : List Value} {ds : List D} (hs : Src P i.size tx x n news w) (hnd : DenL K news ds) (hg : sCap < sLen + n) (hm : sLen + n ≤ maxLen) (hb : (sLen + n) * i.bytes ≤ room) {t : Nat} (ha : h.alloc t (.cells e (os ++ ds)) = some h') :
    ∃ v w' K', (Builtin.append_ #[t0, tx] ty #[.slice base sLen sCap, x]).run P w = .ok v w' ∧ K.le K' ∧ Sim C K' h' w' ∧ Den K' v (.slr t 0 (sLen + n) i.size none) := by
  have hsm : ((sLen + n : Nat) : Int) ≤ 9223372036854775807 := by simp only [maxLen] at hm; omega
  have hr := run_append_grow_src (P := P) w t0 tx ty e i z ht hi hz base sLen sCap olds hold x n news hs hg hsm (growslice_fits (by omega) hb)
  have hle := Ctx.at_le w.heap.size ((grownCap w (sLen + n) sCap e) * i.size) (s.fresh t (alloc_some ha).1)
  have hge := grownCap_ge w (sLen + n) sCap e
  obtain ⟨_, s'⟩ := s.new ha ((grownCap w (sLen + n) sCap e) * i.size) (w' := w.drew.alloc (.cells ((olds ++ news).toArray ++ Builtin.zeroCells z.cells (grownCap w (sLen + n) sCap e - (sLen + n))) e)) (((Below.refl _ w).drew).alloc (Nat.le_refl _) _) (World.alloc_heap_new w.drew _)
    ⟨olds ++ news, (Builtin.zeroCells z.cells (grownCap w (sLen + n) sCap e - (sLen + n))).toList, by congr 1; apply Array.ext'; simp, (hod.append hnd).mono hle, by rw [List.all_append, ho1, Bool.true_and]; exact List.all_eq_true.2 hs.one, by
      have h1 := hs.newsLen
      have h2 : (grownCap w (sLen + n) sCap e) * i.size = sLen * i.size + n * i.size + (grownCap w (sLen + n) sCap e - (sLen + n)) * i.size := by rw [← Nat.add_mul, ← Nat.add_mul]; congr 1; omega
      simp only [List.length_append, Array.length_toList, zeroCells_one, hzs, hol, h1, h2]⟩
  exact ⟨_, _, _, hr, hle, s', .slr _ _ _ _ _ _ _ _ (K.at_same _ _ _) hge (grownCap_le_maxLen w _ _ e hm) (by omega) (fun _ => by omega) (fun c x => by cases x)⟩

theorem write_behind (s : Sim C K h w) {k : Nat} {ty : TypeId} {cs : List D} (hk : h.get k = some (.cells ty cs)) {b n : Nat} (hl : K.loc k = some (b, n)) (off : Nat) {ns : List Value} {ds : List D}
    (hd : DenL K ns ds) (h1 : ns.all (·.oneCell') = true) (hoff : off ≤ cs.length) (hn : off + ds.length ≤ n) :
    ∃ w', (storeCells ⟨b, off, none⟩ ns).run P w = .ok () w' ∧ w.grownBy w' (some b) ∧ ∃ O, w'.heap[b]? = some O ∧ BlkRel C.ofc K n O (.cells ty (cs.take off ++ ds ++ cs.drop (off + ds.length))) := by
  obtain ⟨_, us, vs, g1, g2, g3, g4⟩ := s.block hk hl
  have hul := g2.length
  have hnl := hd.length
  have hst := run_storeCells_at P b off ty ns 0 (us ++ vs).toArray w g1 (by simp only [Nat.add_zero, List.size_toArray]; omega) (fun v hv => List.all_eq_true.1 h1 v hv)
  simp only [Nat.add_zero] at hst
  refine ⟨_, hst, grown_setRow _, _, setRow_heap w b _ _ ty (0, 0) g1, us.take off ++ ns ++ us.drop (off + ns.length), vs.drop (off + ns.length - us.length), ?_, ?_, ?_, ?_⟩
  · congr 2
    rw [List.take_append_of_le_length (by omega), List.drop_append]
    simp [List.append_assoc]
  · rw [hnl]; exact ((g2.take off).append hd).append (g2.drop _)
  · rw [List.all_append, List.all_append, h1, Bool.and_true]
    have hm := List.all_eq_true.1 g3
    rw [Bool.and_eq_true]
    exact ⟨List.all_eq_true.2 fun v hv => hm v (List.mem_of_mem_take hv), List.all_eq_true.2 fun v hv => hm v (List.mem_of_mem_drop hv)⟩
  · simp only [List.length_append, List.length_take, List.length_drop] at g4 ⊢; omega

theorem append_sound (s : Sim C K h w) {t0 tx ty e : TypeId} {i : TypeInfo} {z : Value} (ht : P.underlying t0 = some (.slice e)) (hi : P.info? e = some i) (hz : i.zero = some z) (hzs : z.cells.size = i.size) (h0 : 0 < i.size) {v x : Value} {d : D} (hv : Den K v d)
    {n : Nat} {news : List Value} {ds : List D} (hs : Src P i.size tx x n news w) (hnd : DenL K news ds) (hn0 : 0 < n) {t : Nat} {r : D} (hq : appD t e i.size i.bytes h d n ds = some (r, h')) :
    ∃ v' w' K', (Builtin.append_ #[t0, tx] ty #[v, x]).run P w = .ok v' w' ∧ K.le K' ∧ Sim C K' h' w' ∧ Den K' v' r := by
  have hdl : ds.length = n * i.size := by rw [← hnd.length, hs.newsLen]
  have hn1 : news.all (·.oneCell') = true := List.all_eq_true.2 hs.one
  unfold appD at hq
  split at hq <;> try (cases hq; done)
  · have := hv.val_eq
    subst this
    split at hq <;> try cases hq
    rename_i hc
    simp only [Option.map_eq_some_iff, Prod.mk.injEq] at hq
    obtain ⟨h2, ha, rfl, rfl⟩ := hq
    have := append_new (ty := ty) (tx := tx) s ht hi hz hzs none 0 0 (olds := []) (os := []) (by simp) (by simpa using run_firstCells_none w.drew i.size 0 0 0) .nil rfl hs hnd (by omega) (by omega) (by simpa using hc.1) (by simpa using ha)
    simpa using this
  · rename_i es
    split at hq <;> try cases hq
    rename_i hc
    obtain ⟨hall, hb, hm⟩ := hc
    simp only [Option.map_eq_some_iff, Prod.mk.injEq] at hq
    obtain ⟨h2, ha, rfl, rfl⟩ := hq
    have hsz : ∀ e, e ∈ es → e.cells.length = i.size := fun e he => by simpa using List.all_eq_true.1 hall e he
    cases hv with
    | slnil _ =>
      have := append_new (ty := ty) (tx := tx) s ht hi hz hzs none 0 0 (olds := []) (os := []) (by simp) (by simpa using run_firstCells_none w.drew i.size 0 0 0) .nil rfl hs hnd (by omega) (by simpa using hm) (by simpa using hb) (by simpa using ha)
      simpa using this
    | slw a0 cap _ hz' hm' =>
      have hcap := hz' rfl
      subst hcap
      have := append_new (ty := ty) (tx := tx) s ht hi hz hzs (some a0) 0 0 (olds := []) (os := []) (by simp) (by simpa using run_firstCells_some w.drew i.size 0 a0 0 0 [] (by simp) (fun j u hj => by simp at hj)) .nil rfl hs hnd (by omega) (by simpa using hm) (by simpa using hb) (by simpa using ha)
      simpa using this
    | sl b off cap _ sz' _ us hz' hn hm' hs' hcl hone hdl' =>
      have hcap := hz' rfl
      subst hcap
      have hul : us.length = es.length * i.size := by rw [hdl'.length, flat_len hsz]
      have hcell : ∀ j u, us[j]? = some u → w.drew.cell? ((⟨b, off, none⟩ : Addr).add j) = some u := fun j u hj => by rw [addr_add]; simpa using (s.cells _ _ _ (hcl j u hj)).2
      exact append_new (ty := ty) (tx := tx) s ht hi hz hzs (some ⟨b, off, none⟩) es.length es.length hul (run_firstCells_some w.drew i.size es.length ⟨b, off, none⟩ es.length es.length us hul hcell) hdl' hone hs hnd (by omega) hm hb ha
  · rename_i k off nn sz c
    split at hq <;> try (cases hq; done)
    rename_i ty' cs hk
    simp only at hq
    split at hq <;> try (cases hq; done)
    rename_i hc
    obtain ⟨rfl, hp, hb, hm⟩ := hc
    cases hv with
    | slr _ _ _ _ b mm cap _ hl hncap hcm hfit hnone hsome =>
      have room : nn + n ≤ cap → off + nn * i.size + ds.length ≤ mm := fun hle => by
        rw [hdl, Nat.add_assoc, ← Nat.add_mul]
        have := Nat.mul_le_mul_right i.size hle
        omega
      have inplace : nn + n ≤ cap → h' = h.set k (some (.cells ty' (cs.take (off + nn * i.size) ++ ds ++ cs.drop (off + nn * i.size + n * i.size)))) → r = .slr k off (nn + n) i.size c → ∃ v' w' K', (Builtin.append_ #[t0, tx] ty #[.slice (some ⟨b, off, none⟩) nn cap, x]).run P w = .ok v' w' ∧ K.le K' ∧ Sim C K' h' w' ∧ Den K' v' r := fun hle hh hr => by
        subst hh hr
        obtain ⟨w', hst, hgr, O, hO, hB⟩ := write_behind (P := P) s hk hl (off + nn * i.size) hnd hn1 hp (room hle)
        rw [hdl] at hB
        exact ⟨_, w', K, run_append_in t0 tx ty e i ht hi b off nn cap x n news hs hle hst, .refl K, s.turn hk hl hgr hO hB, .slr _ _ _ _ _ _ _ _ hl hle hcm hfit hnone hsome⟩
      have olds : ∀ o : Nat, o + nn * i.size ≤ cs.length → ∃ olds : List Value, olds.length = nn * i.size ∧ (∀ (j : Nat) (u : Value), olds[j]? = some u → w.drew.cell? ((⟨b, o, none⟩ : Addr).add j) = some u) ∧ DenL K olds ((cs.drop o).take (nn * i.size)) ∧ olds.all (·.oneCell') = true := fun o ho => by
        obtain ⟨_, us, vs, g1, g2, g3, g4⟩ := s.block hk hl
        have hul := g2.length
        have hl2 : ((us.drop o).take (nn * i.size)).length = nn * i.size := by simp; omega
        exact
          ⟨_, hl2, fun j u hj => by
            rw [addr_add]
            rw [List.getElem?_take] at hj
            split at hj
            · rw [List.getElem?_drop] at hj; simpa using cell_of_block g1 hj
            · (cases hj), (g2.drop o).take _, List.all_eq_true.2 fun u hu => List.all_eq_true.1 g3 u (List.mem_of_mem_drop (List.mem_of_mem_take hu))⟩
      split at hq
      · -- the capacity is not known
        have hS := hnone rfl
        split at hq
        · rename_i hin
          cases hq
          obtain ⟨_, us, vs, g1, g2, g3, g4⟩ := s.block hk hl
          have hul := g2.length
          simp only [List.length_append] at g4
          have hle : nn + n ≤ cap := by
            have : (nn + n) * i.size ≤ cap * i.size := by rw [Nat.add_mul]; omega
            exact Nat.le_of_mul_le_mul_right this h0
          exact inplace hle rfl rfl
        · split at hq <;> try (cases hq; done)
          rename_i hout hc0
          obtain ⟨rfl, rfl⟩ := hc0
          simp only [Option.map_eq_some_iff, Prod.mk.injEq] at hq
          obtain ⟨h2, ha, rfl, rfl⟩ := hq
          simp only [Nat.zero_add] at hp hout ha hS
          by_cases hle : nn + n ≤ cap
          · obtain ⟨w', hst, hgr, O, hO, hB⟩ := write_behind (P := P) s hk hl (0 + nn * i.size) hnd hn1 (by omega) (room hle)
            have hdrop : cs.drop (0 + nn * i.size + ds.length) = [] := List.drop_eq_nil_of_le (by rw [hdl]; omega)
            rw [hdrop, List.append_nil, Nat.zero_add] at hB
            have hfr := s.fresh t (by
              have := (alloc_some ha).1
              by_cases hkt : t = k
              · subst hkt; rw [Heap.raw_set_same] at this; cases this
              · rwa [Heap.raw_set_ne _ _ hkt] at this)
            have hle2 := Ctx.at_le (K := K) b mm hfr
            obtain ⟨h3, s'⟩ := s.move hk ha hl hgr hO (hB.mono hle2)
            exact ⟨_, w', _, run_append_in t0 tx ty ty' i ht hi b 0 nn cap x n news hs hle hst, h3, s', .slr _ _ _ _ _ _ _ _ (K.at_same _ _ _) hle hcm (by omega) (fun _ => by omega) (fun c x => by cases x)⟩
          · obtain ⟨os, ho1, ho2, ho3, ho4⟩ := olds 0 (by omega)
            rw [List.drop_zero] at ho3
            exact append_new (ty := ty) (tx := tx) (s.drop hk) ht hi hz hzs (some ⟨b, 0, none⟩) nn cap ho1 (run_firstCells_some w.drew i.size nn ⟨b, 0, none⟩ nn cap os ho1 ho2) ho3 ho4 hs hnd (by omega) hm hb ha
      · rename_i c'
        have hcc := hsome c' rfl
        subst hcc
        split at hq
        · rename_i hle
          cases hq
          exact inplace hle rfl rfl
        · rename_i hgt
          simp only [Option.map_eq_some_iff, Prod.mk.injEq] at hq
          obtain ⟨h2, ha, rfl, rfl⟩ := hq
          obtain ⟨os, ho1, ho2, ho3, ho4⟩ := olds off (by omega)
          exact append_new (ty := ty) (tx := tx) s ht hi hz hzs (some ⟨b, off, none⟩) nn cap ho1 (run_firstCells_some w.drew i.size nn ⟨b, off, none⟩ nn cap os ho1 ho2) ho3 ho4 hs hnd (by omega) hm hb ha
end

section
variable {C : Cx} {K : Ctx} {h h' : Heap} {w : World} {P : Program}
theorem Sim.oblock (s : Sim C K h w) {k : Nat} {ty : TypeId} {cs : List D} (ho : opn (h.raw k) = some (ty, cs)) {b n : Nat} (hl : K.loc k = some (b, n)) : C.w0.heap.size ≤ b ∧ (∃ us vs ty', w.heap[b]? = some (.cells (us ++ vs).toArray ty') ∧ DenL K us cs ∧ us.all (·.oneCell') = true ∧ (us ++ vs).length = n) ∧ (∀ o, K.cell b o = none) ∧ K.obj b = none ∧
    (∀ j B m, (h.set k none).get j = some B → K.loc j ≠ some (b, m)) ∧ ∀ j cs m, (h.set k none).vget j = some cs → K.loc j ≠ some (b, m) := by
  have gne : ∀ j B, (h.set k none).get j = some B → j ≠ k ∧ h.get j = some B := fun j B x => by
    by_cases hj : j = k
    · subst hj; have x := Heap.get_set_sm x; cases x
    · rw [Heap.get_set_ne _ _ hj] at x; exact ⟨hj, x⟩
  unfold opn at ho
  split at ho <;> cases ho
  · rename_i hr
    have hg : h.get k = some (.cells ty cs) := by unfold Heap.get; rw [hr]; rfl
    obtain ⟨b', n', O, i1, i2, i3, ⟨us, vs, rfl, q2, q3, q4⟩, i5, i6⟩ := s.live k _ hg
    rw [hl] at i1; cases i1
    refine ⟨i2, ⟨us, vs, ty, i3, q2, q3, q4⟩, i5, i6, fun j B m x y => ?_, fun j cs' m x y => ?_⟩
    · obtain ⟨hj, x⟩ := gne j B x
      exact hj (s.inj j k B _ b m n x hg y hl)
    · exact s.vw_ne (Heap.vget_of_set rfl x).2.1 hg hl m y
  · rename_i t hr
    have hv := Heap.vget_par hr
    obtain ⟨b', n', us, vs, ty', i1, i2, i3, i4, i5, i6, i7, i8, i9⟩ := s.vw k cs hv
    rw [hl] at i1; cases i1
    refine ⟨i2, ⟨us, vs, ty', i3, i4, i5, i6⟩, i7, i8, fun j B m x => i9 j B m (gne j B x).2, fun j cs' m x y => ?_⟩
    obtain ⟨hj, x2, x3⟩ := Heap.vget_of_set rfl x
    rcases s.vj j k cs' cs b m n x2 hv y hl with e | ⟨t1, c1, t2, c2, r1, r2⟩ | ⟨t1, c1, t2, c2, r1, r2⟩
    · exact hj e
    · rw [hr] at r2; cases r2
    · rcases Heap.vget_cases x with ⟨ty3, u, r⟩ | ⟨ty3, p, ty4, cs4, r, r'⟩
      · rw [Heap.raw_set_ne _ _ hj, r2] at r; cases r
      · rw [Heap.raw_set_ne _ _ hj, r2] at r; cases r
        rw [Heap.raw_set_same] at r'; cases r'
theorem sets_tk {h : Heap} {k t : Nat} (hkt : t ≠ k) (c p q : Option Blk) : (((((h.set t c).set k none).set t none).set k p).set t q) = (h.set k p).set t q := by
  rw [Heap.set_comm (h.set t c) none none (Ne.symm hkt), Heap.set_set h t none c, Heap.set_comm h none none hkt, Heap.set_comm (h.set k none) none p hkt, Heap.set_set h k p none, Heap.set_set]
theorem sets_kt {h : Heap} {k t : Nat} (hkt : t ≠ k) (c p q : Option Blk) : (((((h.set k none).set t c).set t none).set k p).set t q) = (h.set k p).set t q := by
  rw [Heap.set_set, Heap.set_comm (h.set k none) none p hkt, Heap.set_set h k p none, Heap.set_set]
theorem apl_sound (s : Sim C K h w) {t0 tx ty e : TypeId} {i : TypeInfo} {z : Value} (ht : P.underlying t0 = some (.slice e)) (hi : P.info? e = some i) (hz : i.zero = some z) (hzs : z.cells.size = i.size) (h0 : 0 < i.size) {v x : Value} {d : D} (hv : Den K v d)
    {n : Nat} {news : List Value} {ds : List D} (hs : Src P i.size tx x n news w) (hnd : DenL K news ds) (hn0 : 0 < n) {t : Nat} {r : D} (hq : aplD t e i.size i.bytes h d n ds = some (r, h')) :
    ∃ v' w' K', (Builtin.append_ #[t0, tx] ty #[v, x]).run P w = .ok v' w' ∧ K.le K' ∧ Sim C K' h' w' ∧ Den K' v' r := by
  have hdl : ds.length = n * i.size := by rw [← hnd.length, hs.newsLen]
  have hn1 : news.all (·.oneCell') = true := List.all_eq_true.2 hs.one
  unfold aplD at hq
  split at hq
  · rename_i k nn sz'
    split at hq <;> try (cases hq; done)
    rename_i ty' cs ho
    split at hq <;> try (cases hq; done)
    rename_i hc
    obtain ⟨rfl, hlen, rfl, hb, hm⟩ := hc
    simp only [Option.map_eq_some_iff, Prod.mk.injEq] at hq
    obtain ⟨h2, ha, rfl, rfl⟩ := hq
    obtain ⟨hr, rfl⟩ := alloc_some ha
    have hkt : t ≠ k := fun e => by subst e; rw [Heap.raw_set_same] at hr; cases hr
    have hr0 : h.raw t = none := by rwa [Heap.raw_set_ne _ _ hkt] at hr
    cases hv with
    | slr _ _ _ _ b mm cap _ hl hncap hcm hfit hnone hsome =>
      have hS := hnone rfl
      obtain ⟨q1, ⟨us, vs, ty2, g1, g2, g3, g4⟩, q3, q4, q5, q6⟩ := s.oblock ho hl
      have hul : us.length = nn * i.size := by rw [g2.length, hlen]
      by_cases hle : nn + n ≤ cap
      · have hroom : us.length + news.length ≤ mm := by
          rw [hul, hs.newsLen, ← Nat.add_mul]
          have := Nat.mul_le_mul_right i.size hle
          omega
        have hst := run_storeCells_at P b (nn * i.size) ty2 news 0 (us ++ vs).toArray w g1 (by simp only [Nat.add_zero, List.size_toArray]; rw [g4, ← hul]; omega) (fun v hv => List.all_eq_true.1 hn1 v hv)
        simp only [Nat.add_zero] at hst
        have s1 := s.dropA k
        have hrt : (h.set k none).raw t = none := by rw [Heap.raw_set_ne _ _ hkt]; exact hr0
        have hle2 := Ctx.at_le (K := K) b mm (s1.fresh t hrt)
        have hL : ((us ++ vs).toArray.toList.take (nn * i.size) ++ news ++ (us ++ vs).toArray.toList.drop (nn * i.size + news.length)) = (us ++ news) ++ vs.drop news.length := by
          rw [← hul]
          simp [List.drop_append]
        have hmem := setRow_heap w b _ ((us ++ vs).toArray.toList.take (nn * i.size) ++ news ++ (us ++ vs).toArray.toList.drop (nn * i.size + news.length)).toArray ty2 (0, 0) g1
        have hln : ((us ++ news) ++ vs.drop news.length).length = mm := by
          have := g4
          simp only [List.length_append, List.length_drop] at this ⊢
          omega
        have hone : (us ++ news).all (·.oneCell') = true := by rw [List.all_append, g3, hn1]; rfl
        obtain ⟨W, hW⟩ : ∃ W, W = w.setRow b ((us ++ vs).toArray.toList.take (nn * i.size) ++ news ++ (us ++ vs).toArray.toList.drop (nn * i.size + news.length)).toArray := ⟨_, rfl⟩
        have hgr : w.grownBy W (some b) := by rw [hW]; exact grown_setRow _
        rw [← hW] at hst
        rw [← hW, hL] at hmem
        have hr2 := run_append_in t0 tx ty ty' i ht hi b 0 nn cap x n news hs hle (w' := W) (by rw [Nat.zero_add]; exact hst)
        obtain ⟨_, s2⟩ := s1.take (b := b) (n := mm) q1 ⟨q3, q4⟩ q5 q6 (t := t) (B := .cells ty2 (cs ++ ds)) (h' := (h.set k none).set t (some (.cells ty2 (cs ++ ds)))) (by unfold Heap.alloc; rw [hrt]) hgr hmem ⟨us ++ news, vs.drop news.length, rfl, (g2.append hnd).mono hle2, hone, hln⟩
        have s3 := s2.dropA t
        have hg2 : ∀ j B, (((h.set k none).set t (some (.cells ty2 (cs ++ ds)))).set t none).get j = some B → j ≠ t ∧ (h.set k none).get j = some B := fun j B y => by
          rw [Heap.set_set] at y
          by_cases hj : j = t
          · subst hj; have y := Heap.get_set_sm y; cases y
          · rw [Heap.get_set_ne _ _ hj] at y; exact ⟨hj, y⟩
        have hv2 : ∀ j c, (((h.set k none).set t (some (.cells ty2 (cs ++ ds)))).set t none).vget j = some c → j ≠ t ∧ (h.set k none).vget j = some c := fun j c y => by
          rw [Heap.set_set] at y
          obtain ⟨y1, y2, _⟩ := Heap.vget_of_set rfl y
          exact ⟨y1, y2⟩
        have hu : ∀ j B m, (((h.set k none).set t (some (.cells ty2 (cs ++ ds)))).set t none).get j = some B → (K.at t b mm).loc j ≠ some (b, m) := fun j B m y => by
          obtain ⟨y1, y2⟩ := hg2 j B y
          rw [K.at_ne _ _ y1]; exact q5 j B m y2
        have hvw : ∀ j c m, (((h.set k none).set t (some (.cells ty2 (cs ++ ds)))).set t none).vget j = some c → (K.at t b mm).loc j ≠ some (b, m) := fun j c m y => by
          obtain ⟨y1, y2⟩ := hv2 j c y
          rw [K.at_ne _ _ y1]; exact q6 j c m y2
        have s4 := s3.fork (k := k) (t := t) hkt (tp := ty') (tk := ty') (cs1 := cs) (cs2 := cs ++ ds) (by rw [Heap.raw_set_ne _ _ (Ne.symm hkt), Heap.raw_set_ne _ _ (Ne.symm hkt), Heap.raw_set_same]) (Heap.raw_set_same _ _ _)
          (b1 := b) (n1 := mm) (us1 := us) (vs1 := news ++ vs.drop news.length) (ty1 := ty2) (by rw [K.at_ne _ _ (Ne.symm hkt)]; exact hl) q1 (by rw [← List.append_assoc]; exact hmem) (g2.mono hle2) g3 (by rw [← List.append_assoc]; exact hln) q3 q4 hu hvw
          (b2 := b) (n2 := mm) (us2 := us ++ news) (vs2 := vs.drop news.length) (ty2 := ty2) (K.at_same _ _ _) q1 hmem ((g2.append hnd).mono hle2) hone hln q3 q4 hu hvw
        rw [sets_kt hkt] at s4
        exact ⟨_, W, _, hr2, hle2, s4, .slr _ _ _ _ _ _ _ _ (K.at_same _ _ _) hle hcm hfit (fun _ => by omega) (fun c x => by cases x)⟩
      · have hcell : ∀ j u, us[j]? = some u → w.drew.cell? ((⟨b, 0, none⟩ : Addr).add j) = some u := fun j u hj => by
          rw [addr_add]; simpa using cell_of_block g1 hj
        obtain ⟨v', w', K', r1, r2, s', r4⟩ := append_new (ty := ty) (tx := tx) s ht hi hz hzs (some ⟨b, 0, none⟩) nn cap hul (run_firstCells_some w.drew i.size nn ⟨b, 0, none⟩ nn cap us hul hcell) g2 g3 hs hnd (by omega) hm hb (h' := h.set t (some (.cells ty' (cs ++ ds)))) (t := t) (by unfold Heap.alloc; rw [hr0])
        have hok : opn ((h.set t (some (.cells ty' (cs ++ ds)))).raw k) = some (ty', cs) := by rw [Heap.raw_set_ne _ _ (Ne.symm hkt)]; exact ho
        have hot : opn ((h.set t (some (.cells ty' (cs ++ ds)))).raw t) = some (ty', cs ++ ds) := by rw [Heap.raw_set_same]; rfl
        have lt2 : ∃ b2 m2, K'.loc t = some (b2, m2) := by
          cases r4 with
          | slr _ _ _ _ b2 m2 cap2 _ hl2 _ _ _ _ _ => exact ⟨b2, m2, hl2⟩
        obtain ⟨b2, m2, hl2⟩ := lt2
        have hl1 := r2.loc _ _ hl
        obtain ⟨p1, ⟨us1, vs1, ty1, f1, f2, f3, f4⟩, p3, p4, p5, p6⟩ := s'.oblock hok hl1
        obtain ⟨o1, ⟨us3, vs3, ty3, e1, e2, e3, e4⟩, o3, o4, o5, o6⟩ := s'.oblock hot hl2
        have sA := (s'.dropA k).dropA t
        have hgA : ∀ j B, (((h.set t (some (.cells ty' (cs ++ ds)))).set k none).set t none).get j = some B → j ≠ t ∧ j ≠ k ∧ (h.set t (some (.cells ty' (cs ++ ds)))).get j = some B := fun j B y => by
          by_cases hj : j = t
          · subst hj; have y := Heap.get_set_sm y; cases y
          · rw [Heap.get_set_ne _ _ hj] at y
            by_cases hjk : j = k
            · subst hjk; have y := Heap.get_set_sm y; cases y
            · rw [Heap.get_set_ne _ _ hjk] at y; exact ⟨hj, hjk, y⟩
        have s4 := sA.fork (k := k) (t := t) hkt (tp := ty') (tk := ty') (cs1 := cs) (cs2 := cs ++ ds) (by rw [Heap.raw_set_ne _ _ (Ne.symm hkt), Heap.raw_set_same]) (Heap.raw_set_same _ _ _)
          hl1 p1 f1 f2 f3 f4 p3 p4 (fun j B m y => by
            obtain ⟨y1, y2, y3⟩ := hgA j B y
            exact p5 j B m (by rw [Heap.get_set_ne _ _ y2]; exact y3)) (fun j c m y => by
            exact p6 j c m (Heap.vget_of_set rfl y).2.1)
          hl2 o1 e1 e2 e3 e4 o3 o4 (fun j B m y => by
            obtain ⟨y1, y2, y3⟩ := hgA j B y
            exact o5 j B m (by rw [Heap.get_set_ne _ _ y1]; exact y3)) (fun j c m y => by
            rw [Heap.set_comm _ none none (Ne.symm hkt)] at y
            exact o6 j c m (Heap.vget_of_set rfl y).2.1)
        rw [sets_tk hkt] at s4
        exact ⟨v', w', K', r1, r2, s4, r4⟩
  · obtain ⟨v', w', K', a1, a2, a3, a4⟩ := append_sound (ty := ty) s ht hi hz hzs h0 hv hs hnd hn0 hq
    exact ⟨v', w', K', a1, a2, a3, a4⟩
end

theorem sound_app {P : Program} {N : Nat} {o : Oper} {ty tx et : TypeId} {j : TypeInfo} {z : Value} {x y : Operand} {x' y' : X} (hop : o.op = .call { callee := .builtin .append, args := #[x, y], argTypes := #[ty, tx] })
    (hx : X.of N x = some x') (hy : X.of N y = some y') (hu : P.underlying ty = some (.slice et)) (hk : (∃ e', P.underlying tx = some (.slice e')) ∨ P.underlying tx = some .string) (hj : P.info? et = some j) (hz : j.zero = some z) (hzs : z.cells.size = j.size) (h0 : 0 < j.size) : MSound P N o (.app et j.size j.bytes x' y') := by
  refine ⟨(by rw [hop]; rfl), fun C K h h' w e a t d hP s f hq => ?_⟩
  have hdx := f.rd s hx
  have hdy := (f.rd s hy).wk
  simp only [M.ev, appendD] at hq
  split at hq <;> try (cases hq; done)
  rename_i m ds hsrc
  obtain ⟨news, hS, hnd⟩ := src_den (P := P) s hk hdy hsrc
  have exec : ∀ v' w', (Builtin.append_ #[ty, tx] o.type #[a.eval x, a.eval y]).run P w = .ok v' w' → (execOp a.eval o).run P w = .ok (.value v') w' := fun v' w' hr => by
    simp [execOp, hop, resolve, invoke, builtin, hr]
  split at hq <;> try (cases hq; done)
  split at hq
  · rename_i hone hm0
    subst hm0
    have hnil : news = [] := List.eq_nil_of_length_eq_zero (by rw [hS.newsLen, Nat.zero_mul])
    subst hnil
    obtain ⟨v, hv⟩ : ∃ v, a.eval x = v := ⟨_, rfl⟩
    rw [hv] at hdx
    have fin : ∀ b n c, v = .slice b n c → n ≤ c → ∃ v w' K', Did P o a w v w' ∧ K.le K' ∧ Sim C K' h w' ∧ Den K' v (rd C.pg.gl e x') := fun b n c hvs hle =>
      still s (v := v) (exec _ _ (by rw [hv, hvs]; exact run_append_zero ty tx o.type et j hu hj b n c (a.eval y) hS hle)) hdx
    split at hq <;> try (cases hq; done)
    · rename_i hr
      cases hq
      rw [hr] at hdx
      exact fin none 0 0 hdx.val_eq (Nat.le_refl _)
    · rename_i z es hr
      cases hq
      rw [hr] at hdx
      cases hdx with
      | slnil _ => exact fin none 0 0 rfl (Nat.le_refl _)
      | slw a0 cap _ _ _ => exact fin _ _ _ rfl (Nat.zero_le _)
      | sl b off cap _ sz' _ us hz' hn hm' hs' hcl hone hdl' => exact fin _ _ _ rfl hn
    · rename_i k off n sz c hr
      cases hq
      rw [hr] at hdx
      cases hdx with
      | slr _ _ _ _ b mm cap _ hl hncap hcm hfit hnone hsome => exact fin _ _ _ rfl hncap
  · rename_i hone hm0
    obtain ⟨v', w', K', hr, hle, s', hd'⟩ := append_sound (ty := o.type) s hu hj hz hzs h0 hdx hS hnd (by omega) hq
    exact ⟨v', w', K', .value _ _ (exec _ _ hr), hle, s', hd'⟩
theorem sound_apl {P : Program} {N : Nat} {o : Oper} {ty tx et : TypeId} {j : TypeInfo} {z : Value} {x y : Operand} {x' y' : X} (hop : o.op = .call { callee := .builtin .append, args := #[x, y], argTypes := #[ty, tx] })
    (hx : X.of N x = some x') (hy : X.of N y = some y') (hu : P.underlying ty = some (.slice et)) (hk : (∃ e', P.underlying tx = some (.slice e')) ∨ P.underlying tx = some .string) (hj : P.info? et = some j) (hz : j.zero = some z) (hzs : z.cells.size = j.size) (h0 : 0 < j.size) : MSound P N o (.apl et j.size j.bytes x' y') := by
  refine ⟨(by rw [hop]; rfl), fun C K h h' w e a t d hP s f hq => ?_⟩
  have hdx := f.rd s hx
  have hdy := (f.rd s hy).wk
  simp only [M.ev, aplendD] at hq
  split at hq <;> try (cases hq; done)
  rename_i m ds hsrc
  obtain ⟨news, hS, hnd⟩ := src_den (P := P) s hk hdy hsrc
  split at hq <;> try (cases hq; done)
  split at hq <;> try (cases hq; done)
  rename_i hm0
  obtain ⟨v', w', K', hr, hle, s', hd'⟩ := apl_sound (ty := o.type) s hu hj hz hzs h0 hdx hS hnd (by omega) hq
  exact ⟨v', w', K', .value _ _ (by simp [execOp, hop, resolve, invoke, builtin, hr]), hle, s', hd'⟩
theorem run_append_zeros {P : Program} {w : World} (t tx ty e : TypeId) (i : TypeInfo) (z : Value) (kk : IntKind) (ht : P.underlying t = some (.slice e)) (hk : P.underlying tx = some (.int kk)) (hi : P.info? e = some i) (hz : i.zero = some z) (k : IntKind) (n : Nat) (hn0 : 0 < n) (hsz : 0 < i.size)
    (hm : n ≤ maxLen) (hb : n * i.bytes ≤ room) :
    (Builtin.append_ #[t, tx] ty #[.slice none 0 0, .int k n]).run P w =
      .ok (.slice (some ⟨w.heap.size, 0, none⟩) n (grownCap w n 0 e)) (w.drew.alloc (.cells (Builtin.zeroCells z.cells n ++ Builtin.zeroCells z.cells (grownCap w n 0 e - n)) e)) := by
  have hfit : Builtin.nextslicecap n 0 * i.bytes ≤ 281474976710656 := growslice_fits (by omega) (by simpa only [room] using hb)
  have hw : IntKind.i64.wrap (n : Int) = (n : Int) := IntWalk.i64_in _ (by simp only [maxLen] at hm; omega)
  have h1 : ¬ ((n : Int) < 0) := by omega
  have h2 : ¬ (281474976710656 < (n : Int) * (i.bytes : Int)) := by
    have : (n : Int) * (i.bytes : Int) = ((n * i.bytes : Nat) : Int) := by rw [Int.natCast_mul]
    rw [this]; simp only [room] at hb; omega
  have h3 : ¬ n ≤ 0 := by omega
  have h63' : ¬ (9223372036854775807 < (n : Int)) := by simp only [maxLen] at hm; omega
  have h48' : ¬ (281474976710656 < Builtin.nextslicecap n 0 * i.bytes) := by omega
  have h4 : ¬ n = 0 := by omega
  have h5 : ¬ i.size = 0 := by omega
  have hold := run_firstCells_none (P := P) w.drew i.size 0 0 0
  simp [Builtin.append_, run_underlying ht, run_underlying hk, asInt, asIntOf, sizeOf, typeInfo, zeroValue, hi, hz, hw, h1, h2, h4, h63', h48', Question.forced, hold, newRow, grownCap]
  intro h0
  have := Nat.mul_pos hn0 hsz
  omega
theorem sound_apz {P : Program} {N : Nat} {o : Oper} {ty tx et : TypeId} {kk : IntKind} {j : TypeInfo} {z : Value} {x y : Operand} {x' y' : X} (hop : o.op = .call { callee := .builtin .append, args := #[x, y], argTypes := #[ty, tx] })
    (hx : X.of N x = some x') (hy : X.of N y = some y') (hu : P.underlying ty = some (.slice et)) (hk : P.underlying tx = some (.int kk)) (hj : P.info? et = some j) (hz : j.zero = some z) (hzs : z.cells.size = j.size) (h0 : 0 < j.size) (h1 : z.cells.toList.all (·.oneCell') = true) : MSound P N o (.apz et j.size j.bytes z.cells.toList x' y') := by
  refine ⟨(by rw [hop]; rfl), fun C K h h' w e a t d hP s f hq => ?_⟩
  have hdx := f.rd s hx
  have hdy := f.rd s hy
  simp only [M.ev] at hq
  split at hq <;> try cases hq
  rename_i k n hrx hry
  rw [hrx] at hdx; rw [hry] at hdy
  have hxv := hdx.val_eq
  have hyv := hdy.val_eq
  split at hq <;> try cases hq
  rename_i hc
  obtain ⟨hn0, _, _, hroom, hmax⟩ := hc
  simp only [Option.map_eq_some_iff, Prod.mk.injEq] at hq
  obtain ⟨h2, ha, rfl, rfl⟩ := hq
  obtain ⟨m, rfl⟩ := Int.eq_ofNat_of_zero_le (show 0 ≤ n by omega)
  simp only [Int.toNat_natCast] at ha hroom hmax ⊢
  have hm0 : 0 < m := by omega
  have hr := run_append_zeros (P := P) (w := w) ty tx o.type et j z kk hu hk hj hz k m hm0 h0 hmax hroom
  have hle := Ctx.at_le w.heap.size ((grownCap w m 0 et) * j.size) (s.fresh t (alloc_some ha).1)
  have hge := grownCap_ge w m 0 et
  obtain ⟨hzd, hzo⟩ := zerosD_den (K := K.at t w.heap.size ((grownCap w m 0 et) * j.size)) (n := m) h1 (fun _ => by simpa using hzs)
  have harr := zeros_arr (n := m) hzs h0
  obtain ⟨_, s'⟩ := s.new ha ((grownCap w m 0 et) * j.size) (w' := w.drew.alloc (.cells (Builtin.zeroCells z.cells m ++ Builtin.zeroCells z.cells (grownCap w m 0 et - m)) et)) (((Below.refl _ w).drew).alloc (Nat.le_refl _) _) (World.alloc_heap_new w.drew _)
    ⟨(List.range (m * j.size)).map fun i => z.cells.toList.getD (i % j.size) undef, (Builtin.zeroCells z.cells (grownCap w m 0 et - m)).toList, by
      congr 1; apply Array.ext'
      rw [Array.toList_append]
      simp only [Builtin.zeroCells]
      rw [show m * z.cells.size = m * j.size by rw [hzs]]
      rw [harr], hzd, hzo, by
      have h3 : (grownCap w m 0 et) * j.size = m * j.size + (grownCap w m 0 et - m) * j.size := by rw [← Nat.add_mul]; congr 1; omega
      simp only [List.length_append, List.length_map, List.length_range, Array.length_toList, zeroCells_one, hzs, h3]⟩
  refine ⟨.slice (some ⟨w.heap.size, 0, none⟩) m (grownCap w m 0 et), _, _, .value _ _ ?_, hle, s', .slr _ _ _ _ _ _ _ _ (K.at_same _ _ _) hge (grownCap_le_maxLen w _ _ et hmax) (by omega) (fun _ => by omega) (fun c x => by cases x)⟩
  simp only [execOp, hop]
  simp [resolve, invoke, builtin, hxv, hyv, hr]
theorem src_pre {C : Cx} {K : Ctx} {h : Heap} {w : World} {P : Program} (s : Sim C K h w) {sz m n' : Nat} {y : D} {v : Value} {ds : List D} (hd : Den K v y) (hns : ∀ st, y ≠ .val (.string st)) (hs : src h sz y = some (m, ds)) (hn : n' ≤ m) :
    (∀ w' : World, (Builtin.lenOf v).run P w' = .ok m w') ∧ ∃ news, (Builtin.firstCells sz n' v).run P w = .ok news.toArray w ∧ DenL K news (ds.take (n' * sz)) ∧ news.all (·.oneCell') = true ∧ n' * sz ≤ ds.length := by
  unfold src at hs
  split at hs <;> try (cases hs; done)
  rotate_left 2
  · exact absurd rfl (hns _)
  · rename_i z es
    split at hs <;> try cases hs
    rename_i hall
    have hsz : ∀ e, e ∈ es → e.cells.length = sz := fun e he => by simpa using List.all_eq_true.1 hall e he
    cases hd with
    | slnil _ =>
      have hn0 : n' = 0 := by simpa using hn
      subst hn0
      exact ⟨fun _ => rfl, [], run_firstCells_none w sz 0 0 0, by simpa using DenL.nil, rfl, by simp⟩
    | slw a0 cap _ _ _ =>
      have hn0 : n' = 0 := by simpa using hn
      subst hn0
      exact ⟨fun _ => rfl, [], run_firstCells_some w sz 0 a0 0 cap [] (by simp) (fun j u hj => by simp at hj), by simpa using DenL.nil, rfl, by simp⟩
    | sl b off cap _ sz' _ us hz hn1 hm hs' hcl hone hdl =>
      have hul : us.length = es.length * sz := by rw [hdl.length, flat_len hsz]
      have hle : n' * sz ≤ es.length * sz := Nat.mul_le_mul_right sz hn
      have hl2 : (us.take (n' * sz)).length = n' * sz := by simp; omega
      have hcell : ∀ j u, (us.take (n' * sz))[j]? = some u → w.cell? ((⟨b, off, none⟩ : Addr).add j) = some u := fun j u hj => by
        rw [List.getElem?_take] at hj
        split at hj
        · rw [addr_add]; exact (s.cells _ _ _ (hcl j u hj)).2
        · cases hj
      exact ⟨fun _ => rfl, us.take (n' * sz), run_firstCells_some w sz n' ⟨b, off, none⟩ es.length cap _ hl2 hcell, hdl.take _, List.all_eq_true.2 fun u hu => List.all_eq_true.1 hone u (List.mem_of_mem_take hu), by rw [flat_len hsz]; exact hle⟩
  · rename_i k off n sz' c
    split at hs <;> try cases hs
    rename_i cs hkk
    split at hs <;> try cases hs
    rename_i hc
    obtain ⟨rfl, hle⟩ := hc
    cases hd with
    | slr _ _ _ _ b mm cap _ hl _ _ _ _ _ =>
      obtain ⟨us, g1, g2, g3, g4⟩ := s.rblock hkk hl
      have hul := g2.length
      have hle2 : n' * sz' ≤ m * sz' := Nat.mul_le_mul_right sz' hn
      have hl2 : ((us.drop off).take (n' * sz')).length = n' * sz' := by simp; omega
      have hcell : ∀ j u, ((us.drop off).take (n' * sz'))[j]? = some u → w.cell? ((⟨b, off, none⟩ : Addr).add j) = some u := fun j u hj => by
        rw [addr_add]
        rw [List.getElem?_take] at hj
        split at hj
        · rw [List.getElem?_drop] at hj; exact g1 _ _ hj
        · cases hj
      refine ⟨fun _ => rfl, _, run_firstCells_some w sz' n' ⟨b, off, none⟩ m cap _ hl2 hcell, ?_, List.all_eq_true.2 fun u hu => List.all_eq_true.1 g3 u (List.mem_of_mem_drop (List.mem_of_mem_take hu)), by simp; omega⟩
      rw [List.take_take, Nat.min_eq_left hle2]
      exact (g2.drop off).take _
theorem src_pre_str {K : Ctx} {w : World} {P : Program} {n' : Nat} {st : ByteArray} {v : Value} (hd : Den K v (.val (.string st))) (hn : n' ≤ st.size) :
    (∀ w' : World, (Builtin.lenOf v).run P w' = .ok st.size w') ∧ ∃ news, (Builtin.firstCells 1 n' v).run P w = .ok news.toArray w ∧ DenL K news ((bytesD st).take (n' * 1)) ∧ news.all (·.oneCell') = true ∧ n' * 1 ≤ (bytesD st).length := by
  have e := hd.val_eq
  subst e
  have hx : (st.extract 0 n').data.toList = st.data.toList.take n' := by simp
  refine ⟨fun w' => by simp [Builtin.lenOf], ((st.data.toList.take n').map fun b => Value.int .u8 b.toNat), ?_, ?_, ?_, ?_⟩
  · have : ((st.data.toList.take n').map fun b => Value.int .u8 b.toNat).toArray = (st.extract 0 n').data.map fun b => Value.int .u8 b.toNat := by
      apply Array.toList_inj.1
      simp
    rw [this]
    simp [Builtin.firstCells]
  · rw [Nat.mul_one]
    have : (bytesD st).take n' = ((st.data.toList.take n').map fun b => Value.int .u8 b.toNat).map .val := by simp [bytesD, List.map_take]; rfl
    rw [this]
    exact vals_den (List.all_eq_true.2 fun u hu => by obtain ⟨_, _, rfl⟩ := List.mem_map.1 hu; rfl)
  · exact List.all_eq_true.2 fun u hu => by obtain ⟨_, _, rfl⟩ := List.mem_map.1 hu; rfl
  · simp [bytesD]; exact hn
theorem src_pre' {C : Cx} {K : Ctx} {h : Heap} {w : World} {P : Program} (s : Sim C K h w) {sz m n' : Nat} {y : D} {v : Value} {ds : List D} (hd : Den K v y) (hs : src h sz y = some (m, ds)) (hn : n' ≤ m) :
    (∀ w' : World, (Builtin.lenOf v).run P w' = .ok m w') ∧ ∃ news, (Builtin.firstCells sz n' v).run P w = .ok news.toArray w ∧ DenL K news (ds.take (n' * sz)) ∧ news.all (·.oneCell') = true ∧ n' * sz ≤ ds.length := by
  by_cases hst : ∃ st, y = .val (.string st)
  · obtain ⟨st, rfl⟩ := hst
    simp only [src] at hs
    split at hs <;> try (cases hs; done)
    rename_i h1
    subst h1
    cases hs
    exact src_pre_str hd hn
  · exact src_pre s hd (fun st e => hst ⟨st, e⟩) hs hn
theorem sound_cpy {P : Program} {N : Nat} {o : Oper} {ty tx et : TypeId} {j : TypeInfo} {x y : Operand} {x' y' : X} (hop : o.op = .call { callee := .builtin .copy, args := #[x, y], argTypes := #[ty, tx] })
    (hx : X.of N x = some x') (hy : X.of N y = some y') (hu : P.underlying ty = some (.slice et)) (hj : P.info? et = some j) : MSound P N o (.cpy j.size x' y') := by
  refine ⟨(by rw [hop]; rfl), fun C K h h' w e a t d hP s f hq => ?_⟩
  have hdx := (f.rd s hx).wk
  have hdy := (f.rd s hy).wk
  simp only [M.ev] at hq
  have exec : ∀ v' w', (Builtin.copy_ #[ty, tx] o.type #[a.eval x, a.eval y]).run P w = .ok v' w' → (execOp a.eval o).run P w = .ok (.value v') w' := fun v' w' hr => by
    simp [execOp, hop, resolve, invoke, builtin, hr]
  split at hq <;> try (cases hq; done)
  · rename_i z p hrx hsy
    obtain ⟨m, ds⟩ := p
    cases hq
    rw [hrx] at hdx
    obtain ⟨hlen, news, hf, hnd, h1, _⟩ := src_pre' (P := P) (n' := 0) s hdy hsy (Nat.zero_le _)
    have hnil : news = [] := by
      have := hnd.length
      exact List.eq_nil_of_length_eq_zero (by rw [this]; simp)
    subst hnil
    refine still s (v := .int .i64 0) (exec _ _ ?_) (.val _ rfl)
    generalize hxv : a.eval x = xv at hdx ⊢
    cases hdx with
    | slnil _ => simp [Builtin.copy_, run_underlying hu, hlen, sizeOf, typeInfo, hj, hf, goInt]
    | slw _ _ _ _ _ => simp [Builtin.copy_, run_underlying hu, hlen, sizeOf, typeInfo, hj, hf, goInt, storeCells]
    | sl b off cap _ sz' _ us hz hn1 hm hs' hcl hone hdl => simp [Builtin.copy_, run_underlying hu, hlen, sizeOf, typeInfo, hj, hf, goInt, storeCells]
  · rename_i k off n sz' c m news hrx hsy
    split at hq <;> try (cases hq; done)
    rename_i ty' cs hk
    split at hq <;> try (cases hq; done)
    rename_i hc
    obtain ⟨rfl, hle, hone⟩ := hc
    cases hq
    rw [hrx] at hdx
    generalize hxv : a.eval x = xv at hdx
    cases hdx with
    | slr _ _ _ _ b mm cap _ hl hncap hcm hfit hnone hsome =>
      obtain ⟨hlen, ns, hf, hnd, h1, hln⟩ := src_pre' (P := P) (n' := min m n) s hdy hsy (Nat.min_le_left _ _)
      have h2 : (min m n) * j.size ≤ n * j.size := Nat.mul_le_mul_right _ (Nat.min_le_right _ _)
      have h3 : n * j.size ≤ cap * j.size := Nat.mul_le_mul_right _ hncap
      have hdl : (news.take (min m n * j.size)).length = min m n * j.size := by rw [List.length_take]; omega
      obtain ⟨w', hst, hgr, O, hO, hB⟩ := write_behind (P := P) s hk hl off hnd h1 (by omega) (by rw [hdl]; omega)
      rw [hdl] at hB
      refine ⟨.int .i64 (min m n : Nat), w', K, .value _ _ (exec _ _ ?_), .refl K, s.turn hk hl hgr hO hB, .val _ rfl⟩
      rw [hxv]
      simp [Builtin.copy_, run_underlying hu, hlen, sizeOf, typeInfo, hj, hf, goInt, hst]
theorem sound_clr {P : Program} {N : Nat} {o : Oper} {ty et : TypeId} {j : TypeInfo} {z : Value} {x : Operand} {x' : X} (hop : o.op = .call { callee := .builtin .clear, args := #[x], argTypes := #[ty] })
    (hx : X.of N x = some x') (hu : P.underlying ty = some (.slice et)) (hj : P.info? et = some j) (hz : j.zero = some z) (hzs : z.cells.size = j.size) (h0 : 0 < j.size) (h1 : z.cells.toList.all (·.oneCell') = true) : MSound P N o (.clr z.cells.toList x') := by
  refine ⟨(by rw [hop]; rfl), fun C K h h' w e a t d hP s f hq => ?_⟩
  have hdx := (f.rd s hx).wk
  simp only [M.ev] at hq
  have exec : ∀ v' w', (Builtin.clear_ #[ty] o.type #[a.eval x]).run P w = .ok v' w' → (execOp a.eval o).run P w = .ok (.value v') w' := fun v' w' hr => by
    simp [execOp, hop, resolve, invoke, builtin, hr]
  split at hq <;> try (cases hq; done)
  · rename_i z0 hrx
    cases hq
    rw [hrx] at hdx
    refine still s (v := .tuple #[]) (exec _ _ ?_) (.tup [] [] .nil)
    generalize hxv : a.eval x = xv at hdx ⊢
    cases hdx with
    | slnil _ => simp [Builtin.clear_, run_underlying hu]
    | slw _ _ _ _ _ => simp [Builtin.clear_, run_underlying hu]
    | sl b off cap _ sz' _ us hz hn1 hm hs' hcl hone hdl => simp [Builtin.clear_, run_underlying hu]
  · rename_i k off n sz c hrx
    rw [hrx] at hdx
    split at hq <;> try (cases hq; done)
    · rename_i hn0
      cases hq
      subst hn0
      refine still s (v := .tuple #[]) (exec _ _ ?_) (.tup [] [] .nil)
      generalize hxv : a.eval x = xv at hdx ⊢
      cases hdx with
      | slr _ _ _ _ b mm cap _ hl hncap hcm hfit hnone hsome => simp [Builtin.clear_, run_underlying hu]
    · rename_i hn0
      split at hq <;> try (cases hq; done)
      rename_i ty' cs hk
      split at hq <;> try (cases hq; done)
      rename_i hc
      obtain ⟨hzl, hs0, hle⟩ := hc
      cases hq
      generalize hxv : a.eval x = xv at hdx
      have hszj : sz = j.size := by rw [← hzl, ← hzs]; simp
      subst hszj
      cases hdx with
      | slr _ _ _ _ b mm cap _ hl hncap hcm hfit hnone hsome =>
        obtain ⟨hzd, hzo⟩ := zerosD_den (K := K) (n := n) h1 (fun _ => by simpa using hzs)
        have harr := zeros_arr (n := n) hzs h0
        have h3 : n * j.size ≤ cap * j.size := Nat.mul_le_mul_right _ hncap
        have hdl : (zerosD z.cells.toList j.size n).length = n * j.size := by rw [← hzd.length]; simp
        obtain ⟨w', hst, hgr, O, hO, hB⟩ := write_behind (P := P) s hk hl off hzd hzo (by omega) (by rw [hdl]; omega)
        rw [hdl] at hB
        refine ⟨.tuple #[], w', K, .value _ _ (exec _ _ ?_), .refl K, s.turn hk hl hgr hO hB, .tup [] [] .nil⟩
        rw [hxv]
        have hzc : (Builtin.zeroCells z.cells n).toList = (List.range (n * j.size)).map fun i => z.cells.toList.getD (i % j.size) undef := by
          simp only [Builtin.zeroCells]
          rw [show n * z.cells.size = n * j.size by rw [hzs]]
          exact harr
        obtain ⟨n', rfl⟩ : ∃ n', n = n' + 1 := ⟨n - 1, by omega⟩
        have hst2 : (storeCells ⟨b, off, none⟩ (Builtin.zeroCells z.cells (n' + 1)).toList).run P w = .ok () w' := by rw [hzc]; exact hst
        simp [Builtin.clear_, run_underlying hu, zeroValue, typeInfo, hj, hz, hst2]
end Go.Em
/- A run of an operation does what its small operation says: comparisons. -/
namespace Go.Em
open Go Go.RowKit

def ckOf : Option TypeDesc → Option CK
  | some (.int _) => some .int
  | some .string => some .str
  | some .bool => some .bool
  | _ => none
def eqTy (P : Program) : Nat → List Field → Option (List CK)
  | _, [] => some []
  | n, f :: l => if f.name ≠ "_" ∧ f.offset = n then (ckOf (P.underlying f.type)).bind fun k => (eqTy P (n + 1) l).bind fun ks => some (k :: ks) else none

theorem run_eqFields {P : Program} {K : Ctx} {w : World} (d : Nat) (xs ys : Array Value) : ∀ (fs : List Field) (n : Nat) (ks : List CK) (ds es : List D) (b : Bool), eqTy P n fs = some ks → DenL K (xs.toList.drop n) ds → DenL K (ys.toList.drop n) es → cellsEq ks ds es = some b →
    (Op.eqFields (d + 1) xs ys fs).run P w = .ok b w
  | [], n, ks, ds, es, b, hk, _, _, h => by
    simp only [eqTy, Option.some.injEq] at hk
    subst hk
    cases ds <;> cases es <;> simp [cellsEq] at h
    subst h; rfl
  | f :: fs, n, ks, ds, es, b, hk, hd, he, h => by
    simp only [eqTy] at hk
    split at hk <;> try (cases hk; done)
    rename_i hc
    obtain ⟨hn, ho⟩ := hc
    simp only [Option.bind_eq_some_iff, Option.some.injEq] at hk
    obtain ⟨k, hk1, ks', hk2, rfl⟩ := hk
    cases ds with
    | nil => simp [cellsEq] at h
    | cons x ds =>
      cases es with
      | nil => simp [cellsEq] at h
      | cons y es =>
        simp only [cellsEq] at h
        split at h <;> try (cases h; done)
        rename_i b1 b2 h1 h2
        cases h
        obtain ⟨u, hu, hud⟩ := hd.get (i := 0) rfl
        obtain ⟨v, hv, hvd⟩ := he.get (i := 0) rfl
        rw [List.getElem?_drop] at hu hv
        have hu' : xs[n]? = some u := by simpa using hu
        have hv' : ys[n]? = some v := by simpa using hv
        have hd' : DenL K (xs.toList.drop (n + 1)) ds := by have := hd.drop 1; simpa [List.drop_drop] using this
        have he' : DenL K (ys.toList.drop (n + 1)) es := by have := he.drop 1; simpa [List.drop_drop] using this
        have ih := run_eqFields (w := w) d xs ys fs (n + 1) ks' ds es b2 hk2 hd' he' h2
        have part1 : (part f.type xs n).run P w = .ok u w ∧ (part f.type ys n).run P w = .ok v w ∧ (Op.equalIn (d + 1) f.type u v).run P w = .ok b1 w := by
          unfold ckOf at hk1
          split at hk1 <;> cases hk1
          · rename_i kk hty
            unfold cellEq at h1
            split at h1 <;> try (cases h1; done)
            · rename_i hkk; split at h1 <;> cases h1
              rename_i heq; subst heq
              have e1 := hud.val_eq; have e2 := hvd.val_eq
              subst e1 e2
              exact ⟨by simp [part, isAgg, run_underlying hty, hu'], by simp [part, isAgg, run_underlying hty, hv'], run_equalIn_int w d f.type _ kk _ _ hty⟩
            all_goals simp_all
          · rename_i hty
            unfold cellEq at h1
            split at h1 <;> try (cases h1; done)
            all_goals try simp_all
            have e1 := hud.val_eq; have e2 := hvd.val_eq
            subst e1 e2
            exact ⟨by simp [part, isAgg, run_underlying hty, hu'], by simp [part, isAgg, run_underlying hty, hv'], by rw [run_equalIn_string w d f.type _ _ hty, ← beq_toListBytes, h1]⟩
          · rename_i hty
            unfold cellEq at h1
            split at h1 <;> try (cases h1; done)
            all_goals try simp_all
            have e1 := hud.val_eq; have e2 := hvd.val_eq
            subst e1 e2
            exact ⟨by simp [part, isAgg, run_underlying hty, hu'], by simp [part, isAgg, run_underlying hty, hv'], by rw [run_equalIn_bool' w d f.type _ _ hty, h1]⟩
        simp only [Op.eqFields, hn, ne_eq, not_false_eq_true, if_true, ho, Sem.run_bind, part1.1, part1.2.1, part1.2.2, Result.andThen_ok]
        cases b1
        · simp
        · simpa using ih

def reps (ks : List CK) : Nat → List CK
  | 0 => []
  | n + 1 => ks ++ reps ks n

theorem cellsEq_app : ∀ {ks ms : List CK} {ds es : List D} {b : Bool}, cellsEq (ks ++ ms) ds es = some b → ∃ b1 b2, cellsEq ks (ds.take ks.length) (es.take ks.length) = some b1 ∧ cellsEq ms (ds.drop ks.length) (es.drop ks.length) = some b2 ∧ b = (b1 && b2)
  | [], ms, ds, es, b, h => ⟨true, b, by simp [cellsEq], by simpa using h, by simp⟩
  | k :: ks, ms, [], es, b, h => by cases es <;> simp [cellsEq] at h
  | k :: ks, ms, _ :: _, [], b, h => by simp [cellsEq] at h
  | k :: ks, ms, x :: ds, y :: es, b, h => by
    simp only [List.cons_append, cellsEq] at h
    split at h <;> try (cases h; done)
    rename_i c1 c2 h1 h2
    cases h
    obtain ⟨b1, b2, e1, e2, rfl⟩ := cellsEq_app h2
    exact ⟨c1 && b1, b2, by simp [cellsEq, h1, e1], by simpa using e2, by simp [Bool.and_assoc]⟩

theorem run_eqItems {P : Program} {K : Ctx} {w : World} (d : Nat) {e : TypeId} {ks : List CK} (hk : eqTy P 0 (P.fieldsOf e).toList = some ks) (hu : P.underlying e = some (.struct (P.fieldsOf e))) (hs : P.stoodInHeld e = false) (hc : P.cellsOf e = ks.length) (xs ys : Array Value) :
    ∀ (m j : Nat) (ds es : List D) (b : Bool), DenL K (xs.toList.drop (j * ks.length)) ds → DenL K (ys.toList.drop (j * ks.length)) es → cellsEq (reps ks m) ds es = some b →
      (Op.eqItems (d + 2) e (P.cellsOf e) xs ys (List.range' j m)).run P w = .ok b w
  | 0, j, ds, es, b, _, _, h => by
    cases ds <;> cases es <;> simp [reps, cellsEq] at h
    subst h; rfl
  | m + 1, j, ds, es, b, hd, he, h => by
    obtain ⟨b1, b2, h1, h2, rfl⟩ := cellsEq_app h
    obtain ⟨i, hi⟩ := info_of_underlying hu
    have hp : ∀ zs : Array Value, (part e zs (j * P.cellsOf e)).run P w = .ok (.agg (zs.extract (j * P.cellsOf e) (j * P.cellsOf e + P.cellsOf e))) w := fun zs => by
      simp [part, isAgg, run_underlying hu, run_sizeOf w hi]
    have hx : ∀ (zs : Array Value) (l : List D), DenL K (zs.toList.drop (j * ks.length)) l → DenL K ((zs.extract (j * P.cellsOf e) (j * P.cellsOf e + P.cellsOf e)).toList.drop 0) (l.take ks.length) := fun zs l hz => by
      rw [List.drop_zero, Array.toList_extract, List.extract_eq_take_drop, hc]
      have e1 : j * ks.length + ks.length - j * ks.length = ks.length := by omega
      rw [e1]
      exact hz.take ks.length
    have hy : ∀ (zs : Array Value) (l : List D), DenL K (zs.toList.drop (j * ks.length)) l → DenL K (zs.toList.drop ((j + 1) * ks.length)) (l.drop ks.length) := fun zs l hz => by
      have := hz.drop ks.length
      rwa [List.drop_drop, show j * ks.length + ks.length = (j + 1) * ks.length by rw [Nat.add_mul, Nat.one_mul]] at this
    have r1 : (Op.equalIn (d + 2) e (.agg (xs.extract (j * P.cellsOf e) (j * P.cellsOf e + P.cellsOf e))) (.agg (ys.extract (j * P.cellsOf e) (j * P.cellsOf e + P.cellsOf e)))).run P w = .ok b1 w := by
      rw [run_equalIn_struct w (d + 1) e _ _ hu hs]
      exact run_eqFields d _ _ _ 0 ks _ _ b1 hk (hx _ _ hd) (hx _ _ he) h1
    have ih := run_eqItems (w := w) d hk hu hs hc xs ys m (j + 1) _ _ b2 (hy _ _ hd) (hy _ _ he) h2
    rw [List.range'_succ]
    simp only [Op.eqItems, Sem.run_bind, hp, r1, Result.andThen_ok]
    cases b1
    · simp
    · simpa using ih

theorem eqD_cells {ks : List CK} {x y : D} {b : Bool} (h : eqD (.cells ks) x y = some b) : ∃ xs ys, x = .agg xs ∧ y = .agg ys ∧ cellsEq ks xs ys = some b := by
  cases x <;> cases y <;> simp [eqD] at h
  exact ⟨_, _, rfl, rfl, h⟩
theorem eqD_bool {x y : D} {b : Bool} (h : eqD .bool x y = some b) : ∃ c d, x = .val (.bool c) ∧ y = .val (.bool d) ∧ b = (c == d) := by
  unfold eqD at h
  split at h <;> try (cases h; done)
  · cases h; exact ⟨_, _, rfl, rfl, rfl⟩
  all_goals simp_all
theorem eqD_nil {k : NK} {x y : D} {b : Bool} (h : eqD (.nil k) x y = some b) : (nilOf k x = some true ∧ nilOf k y = some b) ∨ (nilOf k x = some b ∧ nilOf k y = some true) := by
  simp only [eqD] at h
  split at h
  · rename_i b' h1 h2; cases h; exact .inl ⟨h1, h2⟩
  · rename_i b' h1 h2; cases h; exact .inr ⟨h1, h2⟩
  · cases h

theorem sound_eqc {P : Program} {N : Nat} {o : Oper} {ng : Bool} {ty ty' : TypeId} {ks : List CK} {x y : Operand} {x' y' : X} (hop : o.op = .binOp (if ng then .neq else .eql) ty x y ty') (hx : X.of N x = some x') (hy : X.of N y = some y')
    (hu : P.underlying ty = some (.struct (P.fieldsOf ty))) (hs : P.stoodInHeld ty = false) (hg : P.eqGuardType P.depth ty = false) (hk : eqTy P 0 (P.fieldsOf ty).toList = some ks) : MSound P N o (.eq ng (.cells ks) x' y') := by
  refine ⟨(by rw [hop]; rfl), fun C K h h' w e a t d hP s f hq => ?_⟩
  simp only [M.ev, Option.map_eq_some_iff, Prod.mk.injEq] at hq
  obtain ⟨b, hb, rfl, rfl⟩ := hq
  have hdx := f.rd s hx
  have hdy := f.rd s hy
  obtain ⟨u, hu0⟩ : ∃ v, a.eval x = v := ⟨_, rfl⟩
  obtain ⟨v, hv0⟩ : ∃ v, a.eval y = v := ⟨_, rfl⟩
  rw [hu0] at hdx; rw [hv0] at hdy
  obtain ⟨xs, ys, h2, h3, hb⟩ := eqD_cells hb
  · rw [h2] at hdx; rw [h3] at hdy
    cases hdx with
    | agg us _ hdx =>
      cases hdy with
      | agg vs _ hdy =>
        have hr := run_eqFields (P := P) (w := w) 9998 us.toArray vs.toArray _ 0 ks xs ys b hk (by simpa using hdx) (by simpa using hdy) hb
        refine still s (v := .bool (if ng then !b else b)) ?_ (.val _ rfl)
        cases ng
        · simp [execOp, hop, hu0, hv0, run_eqGuard_agg w .eql ty x y _ _ hg, run_eql_struct w, run_equalIn_struct w 9999 ty _ _ hu hs, hr]
        · simp [execOp, hop, hu0, hv0, run_eqGuard_agg w .neq ty x y _ _ hg, run_neq_struct w, run_equalIn_struct w 9999 ty _ _ hu hs, hr]

theorem sound_eqa {P : Program} {N : Nat} {o : Oper} {ng : Bool} {ty ty' et : TypeId} {n : Nat} {ks : List CK} {x y : Operand} {x' y' : X} (hop : o.op = .binOp (if ng then .neq else .eql) ty x y ty') (hx : X.of N x = some x') (hy : X.of N y = some y')
    (hu : P.underlying ty = some (.array n et)) (hu2 : P.underlying et = some (.struct (P.fieldsOf et))) (hs : P.stoodInHeld et = false) (hg : P.eqGuardType P.depth ty = false) (hk : eqTy P 0 (P.fieldsOf et).toList = some ks) (hc : P.cellsOf et = ks.length) : MSound P N o (.eq ng (.cells (reps ks n)) x' y') := by
  refine ⟨(by rw [hop]; rfl), fun C K h h' w e a t d hP s f hq => ?_⟩
  simp only [M.ev, Option.map_eq_some_iff, Prod.mk.injEq] at hq
  obtain ⟨b, hb, rfl, rfl⟩ := hq
  have hdx := f.rd s hx
  have hdy := f.rd s hy
  obtain ⟨u, hu0⟩ : ∃ v, a.eval x = v := ⟨_, rfl⟩
  obtain ⟨v, hv0⟩ : ∃ v, a.eval y = v := ⟨_, rfl⟩
  rw [hu0] at hdx; rw [hv0] at hdy
  obtain ⟨xs, ys, h2, h3, hb⟩ := eqD_cells hb
  · rw [h2] at hdx; rw [h3] at hdy
    cases hdx with
    | agg us _ hdx =>
      cases hdy with
      | agg vs _ hdy =>
        obtain ⟨i, hi⟩ := info_of_underlying hu2
        have hr := run_eqItems (P := P) (w := w) 9997 hk hu2 hs hc us.toArray vs.toArray n 0 xs ys b (by simpa using hdx) (by simpa using hdy) hb
        rw [← List.range_eq_range'] at hr
        refine still s (v := .bool (if ng then !b else b)) ?_ (.val _ rfl)
        cases ng
        · simp [execOp, hop, hu0, hv0, run_eqGuard_agg w .eql ty x y _ _ hg, run_eql_struct w, run_equalIn_array w 9999 _ _ hu hi, hr]
        · simp [execOp, hop, hu0, hv0, run_eqGuard_agg w .neq ty x y _ _ hg, run_neq_struct w, run_equalIn_array w 9999 _ _ hu hi, hr]

theorem sound_eqb {P : Program} {N : Nat} {o : Oper} {ng : Bool} {ty ty' : TypeId} {x y : Operand} {x' y' : X} (hop : o.op = .binOp (if ng then .neq else .eql) ty x y ty') (hx : X.of N x = some x') (hy : X.of N y = some y')
    (hu : P.underlying ty = some .bool) : MSound P N o (.eq ng .bool x' y') := by
  refine ⟨(by rw [hop]; rfl), fun C K h h' w e a t d hP s f hq => ?_⟩
  simp only [M.ev, Option.map_eq_some_iff, Prod.mk.injEq] at hq
  obtain ⟨b, hb, rfl, rfl⟩ := hq
  have hdx := f.rd s hx
  have hdy := f.rd s hy
  obtain ⟨a1, b1, h2, h3, rfl⟩ := eqD_bool hb
  · rw [h2] at hdx; rw [h3] at hdy
    have e1 := hdx.val_eq; have e2 := hdy.val_eq
    refine still s (v := .bool (if ng then !(a1 == b1) else (a1 == b1))) ?_ (.val _ rfl)
    cases ng <;> simp [execOp, hop, e1, e2, eqGuard, binOp, Op.equal, Op.maxDepth, run_equalIn_bool' w 9999 ty a1 b1 hu]
end Go.Em
/- A run of an operation does what its small operation says: comparisons of structs some of whose fields are structs. -/
namespace Go.Em
open Go Go.RowKit

def eqTy2 (P : Program) : Nat → List Field → Option (List CK)
  | _, [] => some []
  | n, f :: l => if f.name ≠ "_" ∧ f.offset = n then
      (match P.underlying f.type with
      | some (.struct _) => if P.stoodInHeld f.type = false then (eqTy P 0 (P.fieldsOf f.type).toList).bind fun ks => if P.cellsOf f.type = ks.length then (eqTy2 P (n + ks.length) l).bind fun ms => some (ks ++ ms) else none else none
      | t => (ckOf t).bind fun k => (eqTy2 P (n + 1) l).bind fun ks => some (k :: ks))
    else none

theorem part_one {P : Program} {K : Ctx} {w : World} (d : Nat) (xs ys : Array Value) {t : TypeId} {n : Nat} {k : CK} {x y : D} {u v : Value} {b1 : Bool} (hk1 : ckOf (P.underlying t) = some k) (hu' : xs[n]? = some u) (hv' : ys[n]? = some v) (hud : Den K u x) (hvd : Den K v y) (h1 : cellEq k x y = some b1) :
    (part t xs n).run P w = .ok u w ∧ (part t ys n).run P w = .ok v w ∧ (Op.equalIn (d + 1) t u v).run P w = .ok b1 w := by
  unfold ckOf at hk1
  split at hk1 <;> cases hk1
  · rename_i kk hty
    unfold cellEq at h1
    split at h1 <;> try (cases h1; done)
    · rename_i hkk; split at h1 <;> cases h1
      rename_i heq; subst heq
      have e1 := hud.val_eq; have e2 := hvd.val_eq
      subst e1 e2
      exact ⟨by simp [part, isAgg, run_underlying hty, hu'], by simp [part, isAgg, run_underlying hty, hv'], run_equalIn_int w d t _ kk _ _ hty⟩
    all_goals simp_all
  · rename_i hty
    unfold cellEq at h1
    split at h1 <;> try (cases h1; done)
    all_goals try simp_all
    have e1 := hud.val_eq; have e2 := hvd.val_eq
    subst e1 e2
    exact ⟨by simp [part, isAgg, run_underlying hty, hu'], by simp [part, isAgg, run_underlying hty, hv'], by rw [run_equalIn_string w d t _ _ hty, ← beq_toListBytes, h1]⟩
  · rename_i hty
    unfold cellEq at h1
    split at h1 <;> try (cases h1; done)
    all_goals try simp_all
    have e1 := hud.val_eq; have e2 := hvd.val_eq
    subst e1 e2
    exact ⟨by simp [part, isAgg, run_underlying hty, hu'], by simp [part, isAgg, run_underlying hty, hv'], by rw [run_equalIn_bool' w d t _ _ hty, h1]⟩

theorem run_eqFields2 {P : Program} {K : Ctx} {w : World} (d : Nat) (xs ys : Array Value) : ∀ (fs : List Field) (n : Nat) (ks : List CK) (ds es : List D) (b : Bool), eqTy2 P n fs = some ks → DenL K (xs.toList.drop n) ds → DenL K (ys.toList.drop n) es → cellsEq ks ds es = some b →
    (Op.eqFields (d + 2) xs ys fs).run P w = .ok b w
  | [], n, ks, ds, es, b, hk, _, _, h => by
    simp only [eqTy2, Option.some.injEq] at hk
    subst hk
    cases ds <;> cases es <;> simp [cellsEq] at h
    subst h; rfl
  | f :: fs, n, ks, ds, es, b, hk, hd, he, h => by
    simp only [eqTy2] at hk
    split at hk <;> try (cases hk; done)
    rename_i hc
    obtain ⟨hn, ho⟩ := hc
    split at hk
    · rename_i gs hty
      split at hk <;> try (cases hk; done)
      rename_i hs
      simp only [Option.bind_eq_some_iff] at hk
      obtain ⟨k1, hk1, hk⟩ := hk
      split at hk <;> try (cases hk; done)
      rename_i hcl
      simp only [Option.bind_eq_some_iff, Option.some.injEq] at hk
      obtain ⟨k2, hk2, rfl⟩ := hk
      have hu : P.underlying f.type = some (.struct (P.fieldsOf f.type)) := by rw [hty]; simp [Program.fieldsOf, hty]
      obtain ⟨b1, b2, h1, h2, rfl⟩ := cellsEq_app h
      obtain ⟨i, hi⟩ := info_of_underlying hu
      have hp : ∀ zs : Array Value, (part f.type zs n).run P w = .ok (.agg (zs.extract n (n + P.cellsOf f.type))) w := fun zs => by
        simp [part, isAgg, run_underlying hu, run_sizeOf w hi]
      have hx : ∀ (zs : Array Value) (l : List D), DenL K (zs.toList.drop n) l → DenL K ((zs.extract n (n + P.cellsOf f.type)).toList.drop 0) (l.take k1.length) := fun zs l hz => by
        rw [List.drop_zero, Array.toList_extract, List.extract_eq_take_drop, hcl]
        have e1 : n + k1.length - n = k1.length := by omega
        rw [e1]
        exact hz.take k1.length
      have hy : ∀ (zs : Array Value) (l : List D), DenL K (zs.toList.drop n) l → DenL K (zs.toList.drop (n + k1.length)) (l.drop k1.length) := fun zs l hz => by
        have := hz.drop k1.length
        rwa [List.drop_drop] at this
      have r1 : (Op.equalIn (d + 2) f.type (.agg (xs.extract n (n + P.cellsOf f.type))) (.agg (ys.extract n (n + P.cellsOf f.type)))).run P w = .ok b1 w := by
        rw [run_equalIn_struct w (d + 1) f.type _ _ hu hs]
        exact run_eqFields d _ _ _ 0 k1 _ _ b1 hk1 (hx _ _ hd) (hx _ _ he) h1
      have ih := run_eqFields2 (w := w) d xs ys fs (n + k1.length) k2 _ _ b2 hk2 (hy _ _ hd) (hy _ _ he) h2
      simp only [Op.eqFields, hn, ne_eq, not_false_eq_true, if_true, ho, Sem.run_bind, hp, r1, Result.andThen_ok]
      cases b1
      · simp
      · simpa using ih
    · simp only [Option.bind_eq_some_iff, Option.some.injEq] at hk
      obtain ⟨k, hk1, ks', hk2, rfl⟩ := hk
      cases ds with
      | nil => simp [cellsEq] at h
      | cons x ds =>
        cases es with
        | nil => simp [cellsEq] at h
        | cons y es =>
          simp only [cellsEq] at h
          split at h <;> try (cases h; done)
          rename_i b1 b2 h1 h2
          cases h
          obtain ⟨u, hu, hud⟩ := hd.get (i := 0) rfl
          obtain ⟨v, hv, hvd⟩ := he.get (i := 0) rfl
          rw [List.getElem?_drop] at hu hv
          have hu' : xs[n]? = some u := by simpa using hu
          have hv' : ys[n]? = some v := by simpa using hv
          have hd' : DenL K (xs.toList.drop (n + 1)) ds := by have := hd.drop 1; simpa [List.drop_drop] using this
          have he' : DenL K (ys.toList.drop (n + 1)) es := by have := he.drop 1; simpa [List.drop_drop] using this
          have ih := run_eqFields2 (w := w) d xs ys fs (n + 1) ks' ds es b2 hk2 hd' he' h2
          have part1 := part_one (w := w) (d + 1) xs ys hk1 hu' hv' hud hvd h1
          simp only [Op.eqFields, hn, ne_eq, not_false_eq_true, if_true, ho, Sem.run_bind, part1.1, part1.2.1, part1.2.2, Result.andThen_ok]
          cases b1
          · simp
          · simpa using ih

theorem sound_eqc2 {P : Program} {N : Nat} {o : Oper} {ng : Bool} {ty ty' : TypeId} {ks : List CK} {x y : Operand} {x' y' : X} (hop : o.op = .binOp (if ng then .neq else .eql) ty x y ty') (hx : X.of N x = some x') (hy : X.of N y = some y')
    (hu : P.underlying ty = some (.struct (P.fieldsOf ty))) (hs : P.stoodInHeld ty = false) (hg : P.eqGuardType P.depth ty = false) (hk : eqTy2 P 0 (P.fieldsOf ty).toList = some ks) : MSound P N o (.eq ng (.cells ks) x' y') := by
  refine ⟨(by rw [hop]; rfl), fun C K h h' w e a t d hP s f hq => ?_⟩
  simp only [M.ev, Option.map_eq_some_iff, Prod.mk.injEq] at hq
  obtain ⟨b, hb, rfl, rfl⟩ := hq
  have hdx := f.rd s hx
  have hdy := f.rd s hy
  obtain ⟨u, hu0⟩ : ∃ v, a.eval x = v := ⟨_, rfl⟩
  obtain ⟨v, hv0⟩ : ∃ v, a.eval y = v := ⟨_, rfl⟩
  rw [hu0] at hdx; rw [hv0] at hdy
  obtain ⟨xs, ys, h2, h3, hb⟩ := eqD_cells hb
  · rw [h2] at hdx; rw [h3] at hdy
    cases hdx with
    | agg us _ hdx =>
      cases hdy with
      | agg vs _ hdy =>
        have hr := run_eqFields2 (P := P) (w := w) 9997 us.toArray vs.toArray _ 0 ks xs ys b hk (by simpa using hdx) (by simpa using hdy) hb
        refine still s (v := .bool (if ng then !b else b)) ?_ (.val _ rfl)
        cases ng
        · simp [execOp, hop, hu0, hv0, run_eqGuard_agg w .eql ty x y _ _ hg, run_eql_struct w, run_equalIn_struct w 9999 ty _ _ hu hs, hr]
        · simp [execOp, hop, hu0, hv0, run_eqGuard_agg w .neq ty x y _ _ hg, run_neq_struct w, run_equalIn_struct w 9999 ty _ _ hu hs, hr]
end Go.Em
