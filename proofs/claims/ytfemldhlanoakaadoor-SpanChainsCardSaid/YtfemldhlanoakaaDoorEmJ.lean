/- A run of an operation does what its small operation says: appends and copies. -/
import Derived.Test.YtfemldhlanoakaaDoorEmI
import Derived.Deep.AppendSrc
namespace Go.Em
open Go Go.RowKit

/-- What an append, or a copy, takes over. -/
theorem src_den {C : Cx} {K : Ctx} {h : Heap} {w : World} {P : Program} (s : Sim C K h w) {sz m : Nat} {tx : TypeId} {y : D} {v : Value} {ds : List D} (hk : (∃ e', P.underlying tx = some (.slice e')) ∨ P.underlying tx = some .string) (hd : Den K v y) (hs : src h sz y = some (m, ds)) :
    ∃ news, Src P sz tx v m news w ∧ DenL K news ds := by
  unfold src at hs
  split at hs <;> try (cases hs; done)
  rotate_left 2
  · rename_i st
    split at hs <;> try cases hs
    rename_i hsz
    subst hsz
    have := hd.val_eq
    subst this
    refine ⟨byteCells st, ⟨hk, fun _ => rfl, firstCells_string st w, firstCells_string st w.drew, by rw [byteCells_length, Nat.mul_one], fun u hu => by obtain ⟨_, _, rfl⟩ := List.mem_map.1 hu; rfl⟩, ?_⟩
    have : bytesD st = (byteCells st).map .val := by simp [bytesD, byteCells]
    rw [this]
    exact vals_den (List.all_eq_true.2 fun u hu => by obtain ⟨_, _, rfl⟩ := List.mem_map.1 hu; rfl)
  · rename_i z es
    split at hs <;> try cases hs
    rename_i hall
    have hsz : ∀ e, e ∈ es → e.cells.length = sz := fun e he => by simpa using List.all_eq_true.1 hall e he
    cases hd with
    | slnil _ => exact ⟨[], ⟨hk, fun _ => rfl, run_firstCells_none w sz 0 0 0, run_firstCells_none w.drew sz 0 0 0, by simp, fun _ h => by cases h⟩, .nil⟩
    | sl b off cap _ sz' _ us hz hn hm hs' hcl hone hdl =>
      have hul : us.length = es.length * sz := by rw [hdl.length, flat_len hsz]
      have hcell : ∀ j u, us[j]? = some u → w.cell? ((⟨b, off, none⟩ : Addr).add j) = some u := fun j u hj => by rw [addr_add]; exact (s.cells _ _ _ (hcl j u hj)).2
      exact ⟨us, ⟨hk, fun _ => rfl, run_firstCells_some w sz es.length ⟨b, off, none⟩ es.length cap us hul hcell, run_firstCells_some w.drew sz es.length ⟨b, off, none⟩ es.length cap us hul (by simpa using hcell), hul, fun u hu => List.all_eq_true.1 hone u hu⟩, hdl⟩
  · rename_i k off n sz' c
    split at hs <;> try cases hs
    rename_i ty cs hkk
    split at hs <;> try cases hs
    rename_i hc
    obtain ⟨rfl, hle⟩ := hc
    cases hd with
    | slr _ _ _ _ b mm cap _ hl _ _ _ _ _ =>
      obtain ⟨_, us, vs, g1, g2, g3, g4⟩ := s.block hkk hl
      have hul := g2.length
      have hl2 : ((us.drop off).take (m * sz')).length = m * sz' := by simp; omega
      have hcell : ∀ j u, ((us.drop off).take (m * sz'))[j]? = some u → w.cell? ((⟨b, off, none⟩ : Addr).add j) = some u := fun j u hj => by
        rw [addr_add]
        rw [List.getElem?_take] at hj
        split at hj
        · rw [List.getElem?_drop] at hj; exact cell_of_block g1 hj
        · cases hj
      exact ⟨_, ⟨hk, fun _ => rfl, run_firstCells_some w sz' m ⟨b, off, none⟩ m cap _ hl2 hcell, run_firstCells_some w.drew sz' m ⟨b, off, none⟩ m cap _ hl2 (by simpa using hcell), hl2, fun u hu => List.all_eq_true.1 g3 u (List.mem_of_mem_drop (List.mem_of_mem_take hu))⟩, (g2.drop off).take _⟩

section
variable {P : Program} {w : World}
theorem run_append_zero (t tx ty e : TypeId) (i : TypeInfo) (ht : P.underlying t = some (.slice e)) (hi : P.info? e = some i) (base : Option Addr) (sLen sCap : Nat) (x : Value) (hs : Src P i.size tx x 0 [] w) (hle : sLen ≤ sCap) :
    (Builtin.append_ #[t, tx] ty #[.slice base sLen sCap, x]).run P w = .ok (.slice base sLen sCap) w := by
  rcases hs.kind with ⟨e', hk⟩ | hk <;> cases base <;> simp [Builtin.append_, run_underlying ht, run_underlying hk, sizeOf, typeInfo, hi, hs.len, hle, hs.cells, storeCells]
theorem run_append_in (t tx ty e : TypeId) (i : TypeInfo) (ht : P.underlying t = some (.slice e)) (hi : P.info? e = some i) (b off sLen sCap : Nat) (x : Value) (n : Nat) (news : List Value) (hs : Src P i.size tx x n news w)
    (hroom : sLen + n ≤ sCap) {w' : World} (hst : (storeCells ⟨b, off + sLen * i.size, none⟩ news).run P w = .ok () w') :
    (Builtin.append_ #[t, tx] ty #[.slice (some ⟨b, off, none⟩) sLen sCap, x]).run P w = .ok (.slice (some ⟨b, off, none⟩) (sLen + n) sCap) w' := by
  rcases hs.kind with ⟨e', hk⟩ | hk <;> simp [Builtin.append_, run_underlying ht, run_underlying hk, sizeOf, typeInfo, hi, hs.len, hroom, hs.cells, Addr.add_lit, hst]
end

theorem zeroCells_one {z : Array Value} {n : Nat} : (Builtin.zeroCells z n).size = n * z.size := by simp [Builtin.zeroCells]

section
variable {C : Cx} {K : Ctx} {h h' : Heap} {w : World} {P : Program}

/-- An append that takes a new block. -/
theorem append_new (s : Sim C K h w) {t0 tx ty e : TypeId} {i : TypeInfo} {z : Value} (ht : P.underlying t0 = some (.slice e)) (hi : P.info? e = some i) (hz : i.zero = some z) (hzs : z.cells.size = i.size)
    (base : Option Addr) (sLen sCap : Nat) {olds : List Value} {os : List D} (hol : olds.length = sLen * i.size) (hold : (Builtin.firstCells i.size sLen (.slice base sLen sCap)).run P w.drew = .ok olds.toArray w.drew) (hod : DenL K olds os) (ho1 : olds.all (·.oneCell') = true)
    {x : Value} {n : Nat} {news : List Value} {ds : List D} (hs : Src P i.size tx x n news w) (hnd : DenL K news ds) (hg : sCap < sLen + n) (hm : sLen + n ≤ maxLen) (hb : (sLen + n) * i.bytes ≤ room) {t : Nat} (ha : h.alloc t (.cells e (os ++ ds)) = some h') :
    ∃ v w' K', (Builtin.append_ #[t0, tx] ty #[.slice base sLen sCap, x]).run P w = .ok v w' ∧ K.le K' ∧ Sim C K' h' w' ∧ Den K' v (.slr t 0 (sLen + n) i.size none) := by
  have hsm : ((sLen + n : Nat) : Int) ≤ 9223372036854775807 := by simp only [maxLen] at hm; omega
  have hr := run_append_grow_src (P := P) w t0 tx ty e i z ht hi hz base sLen sCap olds hold x n news hs hg hsm (growslice_fits (by omega) hb)
  have hle := Ctx.at_le w.heap.size ((grownCap w (sLen + n) sCap e) * i.size) (s.fresh t (alloc_some ha).1)
  have hge := grownCap_ge w (sLen + n) sCap e
  obtain ⟨_, s'⟩ := s.new ha ((grownCap w (sLen + n) sCap e) * i.size) (w' := w.drew.alloc (.cells ((olds ++ news).toArray ++ Builtin.zeroCells z.cells (grownCap w (sLen + n) sCap e - (sLen + n))) e)) (((Below.refl _ w).drew).alloc (Nat.le_refl _) _) (World.alloc_heap_new w.drew _)
    ⟨olds ++ news, (Builtin.zeroCells z.cells (grownCap w (sLen + n) sCap e - (sLen + n))).toList, by congr 1; apply Array.ext'; simp, (hod.append hnd).mono hle, by rw [List.all_append, ho1, Bool.true_and]; exact List.all_eq_true.2 hs.one, by
      have h1 := hs.newsLen
      have h2 : (grownCap w (sLen + n) sCap e) * i.size = sLen * i.size + n * i.size + (grownCap w (sLen + n) sCap e - (sLen + n)) * i.size := by rw [← Nat.add_mul, ← Nat.add_mul]; congr 1; omega
      simp only [List.length_append, Array.length_toList, zeroCells_one, hzs, hol, h1, h2]⟩
  exact ⟨_, _, _, hr, hle, s', .slr _ _ _ _ _ _ _ _ (K.at_same _ _ _) hge (grownCap_le_maxLen w _ _ e hm) (by omega) (fun _ => by omega) (fun c x => by cases x)⟩

/-- Where cells are written behind what is known of a block, that is known too. -/
theorem write_behind (s : Sim C K h w) {k : Nat} {ty : TypeId} {cs : List D} (hk : h.get k = some (.cells ty cs)) {b n : Nat} (hl : K.loc k = some (b, n)) (off : Nat) {ns : List Value} {ds : List D}
    (hd : DenL K ns ds) (h1 : ns.all (·.oneCell') = true) (hoff : off ≤ cs.length) (hn : off + ds.length ≤ n) :
    ∃ w', (storeCells ⟨b, off, none⟩ ns).run P w = .ok () w' ∧ w.grownBy w' (some b) ∧ ∃ O, w'.heap[b]? = some O ∧ BlkRel C.ofc K n O (.cells ty (cs.take off ++ ds ++ cs.drop (off + ds.length))) := by
  obtain ⟨_, us, vs, g1, g2, g3, g4⟩ := s.block hk hl
  have hul := g2.length
  have hnl := hd.length
  have hst := run_storeCells_at P b off ty ns 0 (us ++ vs).toArray w g1 (by simp only [Nat.add_zero, List.size_toArray]; omega) (fun v hv => List.all_eq_true.1 h1 v hv)
  simp only [Nat.add_zero] at hst
  refine ⟨_, hst, grown_setRow _, _, setRow_heap w b _ _ ty (0, 0) g1, us.take off ++ ns ++ us.drop (off + ns.length), vs.drop (off + ns.length - us.length), ?_, ?_, ?_, ?_⟩
  · congr 2
    rw [List.take_append_of_le_length (by omega), List.drop_append]
    simp [List.append_assoc]
  · rw [hnl]; exact ((g2.take off).append hd).append (g2.drop _)
  · rw [List.all_append, List.all_append, h1, Bool.and_true]
    have hm := List.all_eq_true.1 g3
    rw [Bool.and_eq_true]
    exact ⟨List.all_eq_true.2 fun v hv => hm v (List.mem_of_mem_take hv), List.all_eq_true.2 fun v hv => hm v (List.mem_of_mem_drop hv)⟩
  · simp only [List.length_append, List.length_take, List.length_drop] at g4 ⊢; omega

theorem append_sound (s : Sim C K h w) {t0 tx ty e : TypeId} {i : TypeInfo} {z : Value} (ht : P.underlying t0 = some (.slice e)) (hi : P.info? e = some i) (hz : i.zero = some z) (hzs : z.cells.size = i.size) (h0 : 0 < i.size) {v x : Value} {d : D} (hv : Den K v d)
    {n : Nat} {news : List Value} {ds : List D} (hs : Src P i.size tx x n news w) (hnd : DenL K news ds) (hn0 : 0 < n) {t : Nat} {r : D} (hq : appD t e i.size i.bytes h d n ds = some (r, h')) :
    ∃ v' w' K', (Builtin.append_ #[t0, tx] ty #[v, x]).run P w = .ok v' w' ∧ K.le K' ∧ Sim C K' h' w' ∧ Den K' v' r := by
  have hdl : ds.length = n * i.size := by rw [← hnd.length, hs.newsLen]
  have hn1 : news.all (·.oneCell') = true := List.all_eq_true.2 hs.one
  unfold appD at hq
  split at hq <;> try (cases hq; done)
  · have := hv.val_eq
    subst this
    split at hq <;> try cases hq
    rename_i hc
    simp only [Option.map_eq_some_iff, Prod.mk.injEq] at hq
    obtain ⟨h2, ha, rfl, rfl⟩ := hq
    have := append_new (ty := ty) (tx := tx) s ht hi hz hzs none 0 0 (olds := []) (os := []) (by simp) (by simpa using run_firstCells_none w.drew i.size 0 0 0) .nil rfl hs hnd (by omega) (by omega) (by simpa using hc.1) (by simpa using ha)
    simpa using this
  · rename_i es
    split at hq <;> try cases hq
    rename_i hc
    obtain ⟨hall, hb, hm⟩ := hc
    simp only [Option.map_eq_some_iff, Prod.mk.injEq] at hq
    obtain ⟨h2, ha, rfl, rfl⟩ := hq
    have hsz : ∀ e, e ∈ es → e.cells.length = i.size := fun e he => by simpa using List.all_eq_true.1 hall e he
    cases hv with
    | slnil _ =>
      have := append_new (ty := ty) (tx := tx) s ht hi hz hzs none 0 0 (olds := []) (os := []) (by simp) (by simpa using run_firstCells_none w.drew i.size 0 0 0) .nil rfl hs hnd (by omega) (by simpa using hm) (by simpa using hb) (by simpa using ha)
      simpa using this
    | sl b off cap _ sz' _ us hz' hn hm' hs' hcl hone hdl' =>
      have hcap := hz' rfl
      subst hcap
      have hul : us.length = es.length * i.size := by rw [hdl'.length, flat_len hsz]
      have hcell : ∀ j u, us[j]? = some u → w.drew.cell? ((⟨b, off, none⟩ : Addr).add j) = some u := fun j u hj => by rw [addr_add]; simpa using (s.cells _ _ _ (hcl j u hj)).2
      exact append_new (ty := ty) (tx := tx) s ht hi hz hzs (some ⟨b, off, none⟩) es.length es.length hul (run_firstCells_some w.drew i.size es.length ⟨b, off, none⟩ es.length es.length us hul hcell) hdl' hone hs hnd (by omega) hm hb ha
  · rename_i k off nn sz c
    split at hq <;> try (cases hq; done)
    rename_i ty' cs hk
    simp only at hq
    split at hq <;> try (cases hq; done)
    rename_i hc
    obtain ⟨rfl, hp, hb, hm⟩ := hc
    cases hv with
    | slr _ _ _ _ b mm cap _ hl hncap hcm hfit hnone hsome =>
      have room : nn + n ≤ cap → off + nn * i.size + ds.length ≤ mm := fun hle => by
        rw [hdl, Nat.add_assoc, ← Nat.add_mul]
        have := Nat.mul_le_mul_right i.size hle
        omega
      have inplace : nn + n ≤ cap → h' = h.set k (some (.cells ty' (cs.take (off + nn * i.size) ++ ds ++ cs.drop (off + nn * i.size + n * i.size)))) → r = .slr k off (nn + n) i.size c → ∃ v' w' K', (Builtin.append_ #[t0, tx] ty #[.slice (some ⟨b, off, none⟩) nn cap, x]).run P w = .ok v' w' ∧ K.le K' ∧ Sim C K' h' w' ∧ Den K' v' r := fun hle hh hr => by
        subst hh hr
        obtain ⟨w', hst, hgr, O, hO, hB⟩ := write_behind (P := P) s hk hl (off + nn * i.size) hnd hn1 hp (room hle)
        rw [hdl] at hB
        exact ⟨_, w', K, run_append_in t0 tx ty e i ht hi b off nn cap x n news hs hle hst, .refl K, s.turn hk hl hgr hO hB, .slr _ _ _ _ _ _ _ _ hl hle hcm hfit hnone hsome⟩
      have olds : ∀ o : Nat, o + nn * i.size ≤ cs.length → ∃ olds : List Value, olds.length = nn * i.size ∧ (∀ (j : Nat) (u : Value), olds[j]? = some u → w.drew.cell? ((⟨b, o, none⟩ : Addr).add j) = some u) ∧ DenL K olds ((cs.drop o).take (nn * i.size)) ∧ olds.all (·.oneCell') = true := fun o ho => by
        obtain ⟨_, us, vs, g1, g2, g3, g4⟩ := s.block hk hl
        have hul := g2.length
        have hl2 : ((us.drop o).take (nn * i.size)).length = nn * i.size := by simp; omega
        exact
          ⟨_, hl2, fun j u hj => by
            rw [addr_add]
            rw [List.getElem?_take] at hj
            split at hj
            · rw [List.getElem?_drop] at hj; simpa using cell_of_block g1 hj
            · (cases hj), (g2.drop o).take _, List.all_eq_true.2 fun u hu => List.all_eq_true.1 g3 u (List.mem_of_mem_drop (List.mem_of_mem_take hu))⟩
      split at hq
      · -- the capacity is not known
        have hS := hnone rfl
        split at hq
        · rename_i hin
          cases hq
          obtain ⟨_, us, vs, g1, g2, g3, g4⟩ := s.block hk hl
          have hul := g2.length
          simp only [List.length_append] at g4
          have hle : nn + n ≤ cap := by
            have : (nn + n) * i.size ≤ cap * i.size := by rw [Nat.add_mul]; omega
            exact Nat.le_of_mul_le_mul_right this h0
          exact inplace hle rfl rfl
        · split at hq <;> try (cases hq; done)
          rename_i hout hc0
          obtain ⟨rfl, rfl⟩ := hc0
          simp only [Option.map_eq_some_iff, Prod.mk.injEq] at hq
          obtain ⟨h2, ha, rfl, rfl⟩ := hq
          simp only [Nat.zero_add] at hp hout ha hS
          by_cases hle : nn + n ≤ cap
          · obtain ⟨w', hst, hgr, O, hO, hB⟩ := write_behind (P := P) s hk hl (0 + nn * i.size) hnd hn1 (by omega) (room hle)
            have hdrop : cs.drop (0 + nn * i.size + ds.length) = [] := List.drop_eq_nil_of_le (by rw [hdl]; omega)
            rw [hdrop, List.append_nil, Nat.zero_add] at hB
            have hfr := s.fresh t (by
              have := (alloc_some ha).1
              by_cases hkt : t = k
              · subst hkt; rw [Heap.raw_set_same] at this; cases this
              · rwa [Heap.raw_set_ne _ _ hkt] at this)
            have hle2 := Ctx.at_le (K := K) b mm hfr
            obtain ⟨h3, s'⟩ := s.move hk ha hl hgr hO (hB.mono hle2)
            exact ⟨_, w', _, run_append_in t0 tx ty ty' i ht hi b 0 nn cap x n news hs hle hst, h3, s', .slr _ _ _ _ _ _ _ _ (K.at_same _ _ _) hle hcm (by omega) (fun _ => by omega) (fun c x => by cases x)⟩
          · obtain ⟨os, ho1, ho2, ho3, ho4⟩ := olds 0 (by omega)
            rw [List.drop_zero] at ho3
            exact append_new (ty := ty) (tx := tx) (s.drop hk) ht hi hz hzs (some ⟨b, 0, none⟩) nn cap ho1 (run_firstCells_some w.drew i.size nn ⟨b, 0, none⟩ nn cap os ho1 ho2) ho3 ho4 hs hnd (by omega) hm hb ha
      · rename_i c'
        have hcc := hsome c' rfl
        subst hcc
        split at hq
        · rename_i hle
          cases hq
          exact inplace hle rfl rfl
        · rename_i hgt
          simp only [Option.map_eq_some_iff, Prod.mk.injEq] at hq
          obtain ⟨h2, ha, rfl, rfl⟩ := hq
          obtain ⟨os, ho1, ho2, ho3, ho4⟩ := olds off (by omega)
          exact append_new (ty := ty) (tx := tx) s ht hi hz hzs (some ⟨b, off, none⟩) nn cap ho1 (run_firstCells_some w.drew i.size nn ⟨b, off, none⟩ nn cap os ho1 ho2) ho3 ho4 hs hnd (by omega) hm hb ha
end

theorem sound_app {P : Program} {N : Nat} {o : Oper} {ty tx et : TypeId} {j : TypeInfo} {z : Value} {x y : Operand} {x' y' : X} (hop : o.op = .call { callee := .builtin .append, args := #[x, y], argTypes := #[ty, tx] })
    (hx : X.of N x = some x') (hy : X.of N y = some y') (hu : P.underlying ty = some (.slice et)) (hk : (∃ e', P.underlying tx = some (.slice e')) ∨ P.underlying tx = some .string) (hj : P.info? et = some j) (hz : j.zero = some z) (hzs : z.cells.size = j.size) (h0 : 0 < j.size) : MSound P N o (.app et j.size j.bytes x' y') := by
  refine ⟨(by rw [hop]; rfl), fun C K h h' w e a t d hP s f hq => ?_⟩
  have hdx := f.rd s hx
  have hdy := (f.rd s hy).wk
  simp only [M.ev, appendD] at hq
  split at hq <;> try (cases hq; done)
  rename_i m ds hsrc
  obtain ⟨news, hS, hnd⟩ := src_den (P := P) s hk hdy hsrc
  have exec : ∀ v' w', (Builtin.append_ #[ty, tx] o.type #[a.eval x, a.eval y]).run P w = .ok v' w' → (execOp a.eval o).run P w = .ok (.value v') w' := fun v' w' hr => by
    simp [execOp, hop, resolve, invoke, builtin, hr]
  split at hq <;> try (cases hq; done)
  split at hq
  · rename_i hone hm0
    subst hm0
    have hnil : news = [] := List.eq_nil_of_length_eq_zero (by rw [hS.newsLen, Nat.zero_mul])
    subst hnil
    obtain ⟨v, hv⟩ : ∃ v, a.eval x = v := ⟨_, rfl⟩
    rw [hv] at hdx
    have fin : ∀ b n c, v = .slice b n c → n ≤ c → ∃ v w' K', Did P o a w v w' ∧ K.le K' ∧ Sim C K' h w' ∧ Den K' v (rd C.pg.gl e x') := fun b n c hvs hle =>
      still s (v := v) (exec _ _ (by rw [hv, hvs]; exact run_append_zero ty tx o.type et j hu hj b n c (a.eval y) hS hle)) hdx
    split at hq <;> try (cases hq; done)
    · rename_i hr
      cases hq
      rw [hr] at hdx
      exact fin none 0 0 hdx.val_eq (Nat.le_refl _)
    · rename_i z es hr
      cases hq
      rw [hr] at hdx
      cases hdx with
      | slnil _ => exact fin none 0 0 rfl (Nat.le_refl _)
      | sl b off cap _ sz' _ us hz' hn hm' hs' hcl hone hdl' => exact fin _ _ _ rfl hn
    · rename_i k off n sz c hr
      cases hq
      rw [hr] at hdx
      cases hdx with
      | slr _ _ _ _ b mm cap _ hl hncap hcm hfit hnone hsome => exact fin _ _ _ rfl hncap
  · rename_i hone hm0
    obtain ⟨v', w', K', hr, hle, s', hd'⟩ := append_sound (ty := o.type) s hu hj hz hzs h0 hdx hS hnd (by omega) hq
    exact ⟨v', w', K', .value _ _ (exec _ _ hr), hle, s', hd'⟩
theorem run_append_zeros {P : Program} {w : World} (t tx ty e : TypeId) (i : TypeInfo) (z : Value) (kk : IntKind) (ht : P.underlying t = some (.slice e)) (hk : P.underlying tx = some (.int kk)) (hi : P.info? e = some i) (hz : i.zero = some z) (k : IntKind) (n : Nat) (hn0 : 0 < n) (hsz : 0 < i.size)
    (hm : n ≤ maxLen) (hb : n * i.bytes ≤ room) :
    (Builtin.append_ #[t, tx] ty #[.slice none 0 0, .int k n]).run P w =
      .ok (.slice (some ⟨w.heap.size, 0, none⟩) n (grownCap w n 0 e)) (w.drew.alloc (.cells (Builtin.zeroCells z.cells n ++ Builtin.zeroCells z.cells (grownCap w n 0 e - n)) e)) := by
  have hfit : Builtin.nextslicecap n 0 * i.bytes ≤ 281474976710656 := growslice_fits (by omega) (by simpa only [room] using hb)
  have hw : IntKind.i64.wrap (n : Int) = (n : Int) := IntWalk.i64_in _ (by simp only [maxLen] at hm; omega)
  have h1 : ¬ ((n : Int) < 0) := by omega
  have h2 : ¬ (281474976710656 < (n : Int) * (i.bytes : Int)) := by
    have : (n : Int) * (i.bytes : Int) = ((n * i.bytes : Nat) : Int) := by rw [Int.natCast_mul]
    rw [this]; simp only [room] at hb; omega
  have h3 : ¬ n ≤ 0 := by omega
  have h63' : ¬ (9223372036854775807 < (n : Int)) := by simp only [maxLen] at hm; omega
  have h48' : ¬ (281474976710656 < Builtin.nextslicecap n 0 * i.bytes) := by omega
  have h4 : ¬ n = 0 := by omega
  have h5 : ¬ i.size = 0 := by omega
  have hold := run_firstCells_none (P := P) w.drew i.size 0 0 0
  simp [Builtin.append_, run_underlying ht, run_underlying hk, asInt, asIntOf, sizeOf, typeInfo, zeroValue, hi, hz, hw, h1, h2, h4, h63', h48', Question.forced, hold, newRow, grownCap]
  intro h0
  have := Nat.mul_pos hn0 hsz
  omega
theorem sound_apz {P : Program} {N : Nat} {o : Oper} {ty tx et : TypeId} {kk : IntKind} {j : TypeInfo} {z : Value} {x y : Operand} {x' y' : X} (hop : o.op = .call { callee := .builtin .append, args := #[x, y], argTypes := #[ty, tx] })
    (hx : X.of N x = some x') (hy : X.of N y = some y') (hu : P.underlying ty = some (.slice et)) (hk : P.underlying tx = some (.int kk)) (hj : P.info? et = some j) (hz : j.zero = some z) (hzs : z.cells.size = j.size) (h0 : 0 < j.size) (h1 : z.cells.toList.all (·.oneCell') = true) : MSound P N o (.apz et j.size j.bytes z.cells.toList x' y') := by
  refine ⟨(by rw [hop]; rfl), fun C K h h' w e a t d hP s f hq => ?_⟩
  have hdx := f.rd s hx
  have hdy := f.rd s hy
  simp only [M.ev] at hq
  split at hq <;> try cases hq
  rename_i k n hrx hry
  rw [hrx] at hdx; rw [hry] at hdy
  have hxv := hdx.val_eq
  have hyv := hdy.val_eq
  split at hq <;> try cases hq
  rename_i hc
  obtain ⟨hn0, _, _, hroom, hmax⟩ := hc
  simp only [Option.map_eq_some_iff, Prod.mk.injEq] at hq
  obtain ⟨h2, ha, rfl, rfl⟩ := hq
  obtain ⟨m, rfl⟩ := Int.eq_ofNat_of_zero_le (show 0 ≤ n by omega)
  simp only [Int.toNat_natCast] at ha hroom hmax ⊢
  have hm0 : 0 < m := by omega
  have hr := run_append_zeros (P := P) (w := w) ty tx o.type et j z kk hu hk hj hz k m hm0 h0 hmax hroom
  have hle := Ctx.at_le w.heap.size ((grownCap w m 0 et) * j.size) (s.fresh t (alloc_some ha).1)
  have hge := grownCap_ge w m 0 et
  obtain ⟨hzd, hzo⟩ := zerosD_den (K := K.at t w.heap.size ((grownCap w m 0 et) * j.size)) (n := m) h1 (fun _ => by simpa using hzs)
  have harr := zeros_arr (n := m) hzs h0
  obtain ⟨_, s'⟩ := s.new ha ((grownCap w m 0 et) * j.size) (w' := w.drew.alloc (.cells (Builtin.zeroCells z.cells m ++ Builtin.zeroCells z.cells (grownCap w m 0 et - m)) et)) (((Below.refl _ w).drew).alloc (Nat.le_refl _) _) (World.alloc_heap_new w.drew _)
    ⟨(List.range (m * j.size)).map fun i => z.cells.toList.getD (i % j.size) undef, (Builtin.zeroCells z.cells (grownCap w m 0 et - m)).toList, by
      congr 1; apply Array.ext'
      rw [Array.toList_append]
      simp only [Builtin.zeroCells]
      rw [show m * z.cells.size = m * j.size by rw [hzs]]
      rw [harr], hzd, hzo, by
      have h3 : (grownCap w m 0 et) * j.size = m * j.size + (grownCap w m 0 et - m) * j.size := by rw [← Nat.add_mul]; congr 1; omega
      simp only [List.length_append, List.length_map, List.length_range, Array.length_toList, zeroCells_one, hzs, h3]⟩
  refine ⟨.slice (some ⟨w.heap.size, 0, none⟩) m (grownCap w m 0 et), _, _, .value _ _ ?_, hle, s', .slr _ _ _ _ _ _ _ _ (K.at_same _ _ _) hge (grownCap_le_maxLen w _ _ et hmax) (by omega) (fun _ => by omega) (fun c x => by cases x)⟩
  simp only [execOp, hop]
  simp [resolve, invoke, builtin, hxv, hyv, hr]
/-- The first elements of what is copied. -/
theorem src_pre {C : Cx} {K : Ctx} {h : Heap} {w : World} {P : Program} (s : Sim C K h w) {sz m n' : Nat} {y : D} {v : Value} {ds : List D} (hd : Den K v y) (hns : ∀ st, y ≠ .val (.string st)) (hs : src h sz y = some (m, ds)) (hn : n' ≤ m) :
    (∀ w' : World, (Builtin.lenOf v).run P w' = .ok m w') ∧ ∃ news, (Builtin.firstCells sz n' v).run P w = .ok news.toArray w ∧ DenL K news (ds.take (n' * sz)) ∧ news.all (·.oneCell') = true ∧ n' * sz ≤ ds.length := by
  unfold src at hs
  split at hs <;> try (cases hs; done)
  rotate_left 2
  · exact absurd rfl (hns _)
  · rename_i z es
    split at hs <;> try cases hs
    rename_i hall
    have hsz : ∀ e, e ∈ es → e.cells.length = sz := fun e he => by simpa using List.all_eq_true.1 hall e he
    cases hd with
    | slnil _ =>
      have hn0 : n' = 0 := by simpa using hn
      subst hn0
      exact ⟨fun _ => rfl, [], run_firstCells_none w sz 0 0 0, by simpa using DenL.nil, rfl, by simp⟩
    | sl b off cap _ sz' _ us hz hn1 hm hs' hcl hone hdl =>
      have hul : us.length = es.length * sz := by rw [hdl.length, flat_len hsz]
      have hle : n' * sz ≤ es.length * sz := Nat.mul_le_mul_right sz hn
      have hl2 : (us.take (n' * sz)).length = n' * sz := by simp; omega
      have hcell : ∀ j u, (us.take (n' * sz))[j]? = some u → w.cell? ((⟨b, off, none⟩ : Addr).add j) = some u := fun j u hj => by
        rw [List.getElem?_take] at hj
        split at hj
        · rw [addr_add]; exact (s.cells _ _ _ (hcl j u hj)).2
        · cases hj
      exact ⟨fun _ => rfl, us.take (n' * sz), run_firstCells_some w sz n' ⟨b, off, none⟩ es.length cap _ hl2 hcell, hdl.take _, List.all_eq_true.2 fun u hu => List.all_eq_true.1 hone u (List.mem_of_mem_take hu), by rw [flat_len hsz]; exact hle⟩
  · rename_i k off n sz' c
    split at hs <;> try cases hs
    rename_i ty cs hkk
    split at hs <;> try cases hs
    rename_i hc
    obtain ⟨rfl, hle⟩ := hc
    cases hd with
    | slr _ _ _ _ b mm cap _ hl _ _ _ _ _ =>
      obtain ⟨_, us, vs, g1, g2, g3, g4⟩ := s.block hkk hl
      have hul := g2.length
      have hle2 : n' * sz' ≤ m * sz' := Nat.mul_le_mul_right sz' hn
      have hl2 : ((us.drop off).take (n' * sz')).length = n' * sz' := by simp; omega
      have hcell : ∀ j u, ((us.drop off).take (n' * sz'))[j]? = some u → w.cell? ((⟨b, off, none⟩ : Addr).add j) = some u := fun j u hj => by
        rw [addr_add]
        rw [List.getElem?_take] at hj
        split at hj
        · rw [List.getElem?_drop] at hj; exact cell_of_block g1 hj
        · cases hj
      refine ⟨fun _ => rfl, _, run_firstCells_some w sz' n' ⟨b, off, none⟩ m cap _ hl2 hcell, ?_, List.all_eq_true.2 fun u hu => List.all_eq_true.1 g3 u (List.mem_of_mem_drop (List.mem_of_mem_take hu)), by simp; omega⟩
      rw [List.take_take, Nat.min_eq_left hle2]
      exact (g2.drop off).take _
theorem sound_cpy {P : Program} {N : Nat} {o : Oper} {ty tx et : TypeId} {j : TypeInfo} {x y : Operand} {x' y' : X} (hop : o.op = .call { callee := .builtin .copy, args := #[x, y], argTypes := #[ty, tx] })
    (hx : X.of N x = some x') (hy : X.of N y = some y') (hu : P.underlying ty = some (.slice et)) (hj : P.info? et = some j) : MSound P N o (.cpy j.size x' y') := by
  refine ⟨(by rw [hop]; rfl), fun C K h h' w e a t d hP s f hq => ?_⟩
  have hdx := (f.rd s hx).wk
  have hdy := (f.rd s hy).wk
  simp only [M.ev] at hq
  have exec : ∀ v' w', (Builtin.copy_ #[ty, tx] o.type #[a.eval x, a.eval y]).run P w = .ok v' w' → (execOp a.eval o).run P w = .ok (.value v') w' := fun v' w' hr => by
    simp [execOp, hop, resolve, invoke, builtin, hr]
  split at hq <;> try (cases hq; done)
  · rename_i z p hrx hsy
    obtain ⟨m, ds⟩ := p
    obtain ⟨hsy, hns'⟩ := noStr_src hsy
    cases hq
    rw [hrx] at hdx
    obtain ⟨hlen, news, hf, hnd, h1, _⟩ := src_pre (P := P) (n' := 0) s hdy hns' hsy (Nat.zero_le _)
    have hnil : news = [] := by
      have := hnd.length
      exact List.eq_nil_of_length_eq_zero (by rw [this]; simp)
    subst hnil
    refine still s (v := .int .i64 0) (exec _ _ ?_) (.val _ rfl)
    generalize hxv : a.eval x = xv at hdx ⊢
    cases hdx with
    | slnil _ => simp [Builtin.copy_, run_underlying hu, hlen, sizeOf, typeInfo, hj, hf, goInt]
    | sl b off cap _ sz' _ us hz hn1 hm hs' hcl hone hdl => simp [Builtin.copy_, run_underlying hu, hlen, sizeOf, typeInfo, hj, hf, goInt, storeCells]
  · rename_i k off n sz' c m news hrx hsy
    obtain ⟨hsy, hns'⟩ := noStr_src hsy
    split at hq <;> try (cases hq; done)
    rename_i ty' cs hk
    split at hq <;> try (cases hq; done)
    rename_i hc
    obtain ⟨rfl, hle, hone⟩ := hc
    cases hq
    rw [hrx] at hdx
    generalize hxv : a.eval x = xv at hdx
    cases hdx with
    | slr _ _ _ _ b mm cap _ hl hncap hcm hfit hnone hsome =>
      obtain ⟨hlen, ns, hf, hnd, h1, hln⟩ := src_pre (P := P) (n' := min m n) s hdy hns' hsy (Nat.min_le_left _ _)
      have h2 : (min m n) * j.size ≤ n * j.size := Nat.mul_le_mul_right _ (Nat.min_le_right _ _)
      have h3 : n * j.size ≤ cap * j.size := Nat.mul_le_mul_right _ hncap
      have hdl : (news.take (min m n * j.size)).length = min m n * j.size := by rw [List.length_take]; omega
      obtain ⟨w', hst, hgr, O, hO, hB⟩ := write_behind (P := P) s hk hl off hnd h1 (by omega) (by rw [hdl]; omega)
      rw [hdl] at hB
      refine ⟨.int .i64 (min m n : Nat), w', K, .value _ _ (exec _ _ ?_), .refl K, s.turn hk hl hgr hO hB, .val _ rfl⟩
      rw [hxv]
      simp [Builtin.copy_, run_underlying hu, hlen, sizeOf, typeInfo, hj, hf, goInt, hst]
theorem sound_clr {P : Program} {N : Nat} {o : Oper} {ty et : TypeId} {j : TypeInfo} {z : Value} {x : Operand} {x' : X} (hop : o.op = .call { callee := .builtin .clear, args := #[x], argTypes := #[ty] })
    (hx : X.of N x = some x') (hu : P.underlying ty = some (.slice et)) (hj : P.info? et = some j) (hz : j.zero = some z) (hzs : z.cells.size = j.size) (h0 : 0 < j.size) (h1 : z.cells.toList.all (·.oneCell') = true) : MSound P N o (.clr z.cells.toList x') := by
  refine ⟨(by rw [hop]; rfl), fun C K h h' w e a t d hP s f hq => ?_⟩
  have hdx := (f.rd s hx).wk
  simp only [M.ev] at hq
  have exec : ∀ v' w', (Builtin.clear_ #[ty] o.type #[a.eval x]).run P w = .ok v' w' → (execOp a.eval o).run P w = .ok (.value v') w' := fun v' w' hr => by
    simp [execOp, hop, resolve, invoke, builtin, hr]
  split at hq <;> try (cases hq; done)
  · rename_i z0 hrx
    cases hq
    rw [hrx] at hdx
    refine still s (v := .tuple #[]) (exec _ _ ?_) (.tup [] [] .nil)
    generalize hxv : a.eval x = xv at hdx ⊢
    cases hdx with
    | slnil _ => simp [Builtin.clear_, run_underlying hu]
    | sl b off cap _ sz' _ us hz hn1 hm hs' hcl hone hdl => simp [Builtin.clear_, run_underlying hu]
  · rename_i k off n sz c hrx
    rw [hrx] at hdx
    split at hq <;> try (cases hq; done)
    · rename_i hn0
      cases hq
      subst hn0
      refine still s (v := .tuple #[]) (exec _ _ ?_) (.tup [] [] .nil)
      generalize hxv : a.eval x = xv at hdx ⊢
      cases hdx with
      | slr _ _ _ _ b mm cap _ hl hncap hcm hfit hnone hsome => simp [Builtin.clear_, run_underlying hu]
    · rename_i hn0
      split at hq <;> try (cases hq; done)
      rename_i ty' cs hk
      split at hq <;> try (cases hq; done)
      rename_i hc
      obtain ⟨hzl, hs0, hle⟩ := hc
      cases hq
      generalize hxv : a.eval x = xv at hdx
      have hszj : sz = j.size := by rw [← hzl, ← hzs]; simp
      subst hszj
      cases hdx with
      | slr _ _ _ _ b mm cap _ hl hncap hcm hfit hnone hsome =>
        obtain ⟨hzd, hzo⟩ := zerosD_den (K := K) (n := n) h1 (fun _ => by simpa using hzs)
        have harr := zeros_arr (n := n) hzs h0
        have h3 : n * j.size ≤ cap * j.size := Nat.mul_le_mul_right _ hncap
        have hdl : (zerosD z.cells.toList j.size n).length = n * j.size := by rw [← hzd.length]; simp
        obtain ⟨w', hst, hgr, O, hO, hB⟩ := write_behind (P := P) s hk hl off hzd hzo (by omega) (by rw [hdl]; omega)
        rw [hdl] at hB
        refine ⟨.tuple #[], w', K, .value _ _ (exec _ _ ?_), .refl K, s.turn hk hl hgr hO hB, .tup [] [] .nil⟩
        rw [hxv]
        have hzc : (Builtin.zeroCells z.cells n).toList = (List.range (n * j.size)).map fun i => z.cells.toList.getD (i % j.size) undef := by
          simp only [Builtin.zeroCells]
          rw [show n * z.cells.size = n * j.size by rw [hzs]]
          exact harr
        obtain ⟨n', rfl⟩ : ∃ n', n = n' + 1 := ⟨n - 1, by omega⟩
        have hst2 : (storeCells ⟨b, off, none⟩ (Builtin.zeroCells z.cells (n' + 1)).toList).run P w = .ok () w' := by rw [hzc]; exact hst
        simp [Builtin.clear_, run_underlying hu, zeroValue, typeInfo, hj, hz, hst2]
end Go.Em
