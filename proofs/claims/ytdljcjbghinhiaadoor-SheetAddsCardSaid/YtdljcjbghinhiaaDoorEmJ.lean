/- A run of an operation does what its small operation says: appends and copies. -/
import Derived.Test.YtdljcjbghinhiaaDoorEmI
import Derived.Deep.AppendSrc
namespace Go.Em
open Go Go.RowKit

/-- What an append, or a copy, takes over. -/
theorem src_den {C : Cx} {K : Ctx} {h : Heap} {w : World} {P : Program} (s : Sim C K h w) {sz m : Nat} {tx : TypeId} {y : D} {v : Value} {ds : List D} (hk : (∃ e', P.underlying tx = some (.slice e')) ∨ P.underlying tx = some .string) (hd : Den K v y) (hs : src h sz y = some (m, ds)) :
    ∃ news, Src P sz tx v m news w ∧ DenL K news ds := by
  unfold src at hs
  split at hs <;> try (cases hs; done)
  rotate_left 2
  · rename_i st
    split at hs <;> try cases hs
    rename_i hsz
    subst hsz
    have := hd.val_eq
    subst this
    refine ⟨byteCells st, ⟨hk, fun _ => rfl, firstCells_string st w, firstCells_string st w.drew, by rw [byteCells_length, Nat.mul_one], fun u hu => by obtain ⟨_, _, rfl⟩ := List.mem_map.1 hu; rfl⟩, ?_⟩
    have : bytesD st = (byteCells st).map .val := by simp [bytesD, byteCells]
    rw [this]
    exact vals_den (List.all_eq_true.2 fun u hu => by obtain ⟨_, _, rfl⟩ := List.mem_map.1 hu; rfl)
  · rename_i z es
    split at hs <;> try cases hs
    rename_i hall
    have hsz : ∀ e, e ∈ es → e.cells.length = sz := fun e he => by simpa using List.all_eq_true.1 hall e he
    cases hd with
    | slnil _ => exact ⟨[], ⟨hk, fun _ => rfl, run_firstCells_none w sz 0 0 0, run_firstCells_none w.drew sz 0 0 0, by simp, fun _ h => by cases h⟩, .nil⟩
    | sl b off cap _ sz' _ us hz hn hm hs' hcl hone hdl =>
      have hul : us.length = es.length * sz := by rw [hdl.length, flat_len hsz]
      have hcell : ∀ j u, us[j]? = some u → w.cell? ((⟨b, off, none⟩ : Addr).add j) = some u := fun j u hj => by rw [addr_add]; exact (s.cells _ _ _ (hcl j u hj)).2
      exact ⟨us, ⟨hk, fun _ => rfl, run_firstCells_some w sz es.length ⟨b, off, none⟩ es.length cap us hul hcell, run_firstCells_some w.drew sz es.length ⟨b, off, none⟩ es.length cap us hul (by simpa using hcell), hul, fun u hu => List.all_eq_true.1 hone u hu⟩, hdl⟩
  · rename_i k off n sz' c
    split at hs <;> try cases hs
    rename_i ty cs hkk
    split at hs <;> try cases hs
    rename_i hc
    obtain ⟨rfl, hle⟩ := hc
    cases hd with
    | slr _ _ _ _ b mm cap _ hl _ _ _ _ _ =>
      obtain ⟨_, us, vs, g1, g2, g3, g4⟩ := s.block hkk hl
      have hul := g2.length
      have hl2 : ((us.drop off).take (m * sz')).length = m * sz' := by simp; omega
      have hcell : ∀ j u, ((us.drop off).take (m * sz'))[j]? = some u → w.cell? ((⟨b, off, none⟩ : Addr).add j) = some u := fun j u hj => by
        rw [addr_add]
        rw [List.getElem?_take] at hj
        split at hj
        · rw [List.getElem?_drop] at hj; exact cell_of_block g1 hj
        · cases hj
      exact ⟨_, ⟨hk, fun _ => rfl, run_firstCells_some w sz' m ⟨b, off, none⟩ m cap _ hl2 hcell, run_firstCells_some w.drew sz' m ⟨b, off, none⟩ m cap _ hl2 (by simpa using hcell), hl2, fun u hu => List.all_eq_true.1 g3 u (List.mem_of_mem_drop (List.mem_of_mem_take hu))⟩, (g2.drop off).take _⟩

section
variable {P : Program} {w : World}
theorem run_append_zero (t tx ty e : TypeId) (i : TypeInfo) (ht : P.underlying t = some (.slice e)) (hi : P.info? e = some i) (base : Option Addr) (sLen sCap : Nat) (x : Value) (hs : Src P i.size tx x 0 [] w) (hle : sLen ≤ sCap) :
    (Builtin.append_ #[t, tx] ty #[.slice base sLen sCap, x]).run P w = .ok (.slice base sLen sCap) w := by
  rcases hs.kind with ⟨e', hk⟩ | hk <;> cases base <;> simp [Builtin.append_, run_underlying ht, run_underlying hk, sizeOf, typeInfo, hi, hs.len, hle, hs.cells, storeCells]
theorem run_append_in (t tx ty e : TypeId) (i : TypeInfo) (ht : P.underlying t = some (.slice e)) (hi : P.info? e = some i) (b off sLen sCap : Nat) (x : Value) (n : Nat) (news : List Value) (hs : Src P i.size tx x n news w)
    (hroom : sLen + n ≤ sCap) {w' : World} (hst : (storeCells ⟨b, off + sLen * i.size, none⟩ news).run P w = .ok () w') :
    (Builtin.append_ #[t, tx] ty #[.slice (some ⟨b, off, none⟩) sLen sCap, x]).run P w = .ok (.slice (some ⟨b, off, none⟩) (sLen + n) sCap) w' := by
  rcases hs.kind with ⟨e', hk⟩ | hk <;> simp [Builtin.append_, run_underlying ht, run_underlying hk, sizeOf, typeInfo, hi, hs.len, hroom, hs.cells, Addr.add_lit, hst]
end

theorem zeroCells_one {z : Array Value} {n : Nat} : (Builtin.zeroCells z n).size = n * z.size := by simp [Builtin.zeroCells]

section
variable {C : Cx} {K : Ctx} {h h' : Heap} {w : World} {P : Program}

/-- An append that takes a new block. -/
theorem append_new (s : Sim C K h w) {t0 tx ty e : TypeId} {i : TypeInfo} {z : Value} (ht : P.underlying t0 = some (.slice e)) (hi : P.info? e = some i) (hz : i.zero = some z) (hzs : z.cells.size = i.size)
    (base : Option Addr) (sLen sCap : Nat) {olds : List Value} {os : List D} (hol : olds.length = sLen * i.size) (hold : (Builtin.firstCells i.size sLen (.slice base sLen sCap)).run P w.drew = .ok olds.toArray w.drew) (hod : DenL K olds os) (ho1 : olds.all (·.oneCell') = true)
    {x : Value} {n : Nat} {news : List Value} {ds : List D} (hs : Src P i.size tx x n news w) (hnd : DenL K news ds) (hg : sCap < sLen + n) (hm : sLen + n ≤ maxLen) (hb : (sLen + n) * i.bytes ≤ room) {t : Nat} (ha : h.alloc t (.cells e (os ++ ds)) = some h') :
    ∃ v w' K', (Builtin.append_ #[t0, tx] ty #[.slice base sLen sCap, x]).run P w = .ok v w' ∧ K.le K' ∧ Sim C K' h' w' ∧ Den K' v (.slr t 0 (sLen + n) i.size none) := by
  have hsm : ((sLen + n : Nat) : Int) ≤ 9223372036854775807 := by simp only [maxLen] at hm; omega
  have hr := run_append_grow_src (P := P) w t0 tx ty e i z ht hi hz base sLen sCap olds hold x n news hs hg hsm (growslice_fits (by omega) hb)
  have hle := Ctx.at_le w.heap.size ((grownCap w (sLen + n) sCap e) * i.size) (s.fresh t (alloc_some ha).1)
  have hge := grownCap_ge w (sLen + n) sCap e
  obtain ⟨_, s'⟩ := s.new ha ((grownCap w (sLen + n) sCap e) * i.size) (w' := w.drew.alloc (.cells ((olds ++ news).toArray ++ Builtin.zeroCells z.cells (grownCap w (sLen + n) sCap e - (sLen + n))) e)) (((Below.refl _ w).drew).alloc (Nat.le_refl _) _) (World.alloc_heap_new w.drew _)
    ⟨olds ++ news, (Builtin.zeroCells z.cells (grownCap w (sLen + n) sCap e - (sLen + n))).toList, by congr 1; apply Array.ext'; simp, (hod.append hnd).mono hle, by rw [List.all_append, ho1, Bool.true_and]; exact List.all_eq_true.2 hs.one, by
      have h1 := hs.newsLen
      have h2 : (grownCap w (sLen + n) sCap e) * i.size = sLen * i.size + n * i.size + (grownCap w (sLen + n) sCap e - (sLen + n)) * i.size := by rw [← Nat.add_mul, ← Nat.add_mul]; congr 1; omega
      simp only [List.length_append, Array.length_toList, zeroCells_one, hzs, hol, h1, h2]⟩
  exact ⟨_, _, _, hr, hle, s', .slr _ _ _ _ _ _ _ _ (K.at_same _ _ _) hge (grownCap_le_maxLen w _ _ e hm) (by omega) (fun _ => by omega) (fun c x => by cases x)⟩

/-- Where cells are written behind what is known of a block, that is known too. -/
theorem write_behind (s : Sim C K h w) {k : Nat} {ty : TypeId} {cs : List D} (hk : h.get k = some (.cells ty cs)) {b n : Nat} (hl : K.loc k = some (b, n)) (off : Nat) {ns : List Value} {ds : List D}
    (hd : DenL K ns ds) (h1 : ns.all (·.oneCell') = true) (hoff : off ≤ cs.length) (hn : off + ds.length ≤ n) :
    ∃ w', (storeCells ⟨b, off, none⟩ ns).run P w = .ok () w' ∧ w.grownBy w' (some b) ∧ ∃ O, w'.heap[b]? = some O ∧ BlkRel C.ofc K n O (.cells ty (cs.take off ++ ds ++ cs.drop (off + ds.length))) := by
  obtain ⟨_, us, vs, g1, g2, g3, g4⟩ := s.block hk hl
  have hul := g2.length
  have hnl := hd.length
  have hst := run_storeCells_at P b off ty ns 0 (us ++ vs).toArray w g1 (by simp only [Nat.add_zero, List.size_toArray]; omega) (fun v hv => List.all_eq_true.1 h1 v hv)
  simp only [Nat.add_zero] at hst
  refine ⟨_, hst, grown_setRow _, _, setRow_heap w b _ _ ty (0, 0) g1, us.take off ++ ns ++ us.drop (off + ns.length), vs.drop (off + ns.length - us.length), ?_, ?_, ?_, ?_⟩
  · congr 2
    rw [List.take_append_of_le_length (by omega), List.drop_append]
    simp [List.append_assoc]
  · rw [hnl]; exact ((g2.take off).append hd).append (g2.drop _)
  · rw [List.all_append, List.all_append, h1, Bool.and_true]
    have hm := List.all_eq_true.1 g3
    rw [Bool.and_eq_true]
    exact ⟨List.all_eq_true.2 fun v hv => hm v (List.mem_of_mem_take hv), List.all_eq_true.2 fun v hv => hm v (List.mem_of_mem_drop hv)⟩
  · simp only [List.length_append, List.length_take, List.length_drop] at g4 ⊢; omega

theorem append_sound (s : Sim C K h w) {t0 tx ty e : TypeId} {i : TypeInfo} {z : Value} (ht : P.underlying t0 = some (.slice e)) (hi : P.info? e = some i) (hz : i.zero = some z) (hzs : z.cells.size = i.size) (h0 : 0 < i.size) {v x : Value} {d : D} (hv : Den K v d)
    {n : Nat} {news : List Value} {ds : List D} (hs : Src P i.size tx x n news w) (hnd : DenL K news ds) (hn0 : 0 < n) {t : Nat} {r : D} (hq : appD t e i.size i.bytes h d n ds = some (r, h')) :
    ∃ v' w' K', (Builtin.append_ #[t0, tx] ty #[v, x]).run P w = .ok v' w' ∧ K.le K' ∧ Sim C K' h' w' ∧ Den K' v' r := by
  have hdl : ds.length = n * i.size := by rw [← hnd.length, hs.newsLen]
  have hn1 : news.all (·.oneCell') = true := List.all_eq_true.2 hs.one
  unfold appD at hq
  split at hq <;> try (cases hq; done)
  · have := hv.val_eq
    subst this
    split at hq <;> try cases hq
    rename_i hc
    simp only [Option.map_eq_some_iff, Prod.mk.injEq] at hq
    obtain ⟨h2, ha, rfl, rfl⟩ := hq
    have := append_new (ty := ty) (tx := tx) s ht hi hz hzs none 0 0 (olds := []) (os := []) (by simp) (by simpa using run_firstCells_none w.drew i.size 0 0 0) .nil rfl hs hnd (by omega) (by omega) (by simpa using hc.1) (by simpa using ha)
    simpa using this
  · rename_i es
    split at hq <;> try cases hq
    rename_i hc
    obtain ⟨hall, hb, hm⟩ := hc
    simp only [Option.map_eq_some_iff, Prod.mk.injEq] at hq
    obtain ⟨h2, ha, rfl, rfl⟩ := hq
    have hsz : ∀ e, e ∈ es → e.cells.length = i.size := fun e he => by simpa using List.all_eq_true.1 hall e he
    cases hv with
    | slnil _ =>
      have := append_new (ty := ty) (tx := tx) s ht hi hz hzs none 0 0 (olds := []) (os := []) (by simp) (by simpa using run_firstCells_none w.drew i.size 0 0 0) .nil rfl hs hnd (by omega) (by simpa using hm) (by simpa using hb) (by simpa using ha)
      simpa using this
    | sl b off cap _ sz' _ us hz' hn hm' hs' hcl hone hdl' =>
      have hcap := hz' rfl
      subst hcap
      have hul : us.length = es.length * i.size := by rw [hdl'.length, flat_len hsz]
      have hcell : ∀ j u, us[j]? = some u → w.drew.cell? ((⟨b, off, none⟩ : Addr).add j) = some u := fun j u hj => by rw [addr_add]; simpa using (s.cells _ _ _ (hcl j u hj)).2
      exact append_new (ty := ty) (tx := tx) s ht hi hz hzs (some ⟨b, off, none⟩) es.length es.length hul (run_firstCells_some w.drew i.size es.length ⟨b, off, none⟩ es.length es.length us hul hcell) hdl' hone hs hnd (by omega) hm hb ha
  · rename_i k off nn sz c
    split at hq <;> try (cases hq; done)
    rename_i ty' cs hk
    simp only at hq
    split at hq <;> try (cases hq; done)
    rename_i hc
    obtain ⟨rfl, hp, hb, hm⟩ := hc
    cases hv with
    | slr _ _ _ _ b mm cap _ hl hncap hcm hfit hnone hsome =>
      have room : nn + n ≤ cap → off + nn * i.size + ds.length ≤ mm := fun hle => by
        rw [hdl, Nat.add_assoc, ← Nat.add_mul]
        have := Nat.mul_le_mul_right i.size hle
        omega
      have inplace : nn + n ≤ cap → h' = h.set k (some (.cells ty' (cs.take (off + nn * i.size) ++ ds ++ cs.drop (off + nn * i.size + n * i.size)))) → r = .slr k off (nn + n) i.size c → ∃ v' w' K', (Builtin.append_ #[t0, tx] ty #[.slice (some ⟨b, off, none⟩) nn cap, x]).run P w = .ok v' w' ∧ K.le K' ∧ Sim C K' h' w' ∧ Den K' v' r := fun hle hh hr => by
        subst hh hr
        obtain ⟨w', hst, hgr, O, hO, hB⟩ := write_behind (P := P) s hk hl (off + nn * i.size) hnd hn1 hp (room hle)
        rw [hdl] at hB
        exact ⟨_, w', K, run_append_in t0 tx ty e i ht hi b off nn cap x n news hs hle hst, .refl K, s.turn hk hl hgr hO hB, .slr _ _ _ _ _ _ _ _ hl hle hcm hfit hnone hsome⟩
      have olds : ∀ o : Nat, o + nn * i.size ≤ cs.length → ∃ olds : List Value, olds.length = nn * i.size ∧ (∀ (j : Nat) (u : Value), olds[j]? = some u → w.drew.cell? ((⟨b, o, none⟩ : Addr).add j) = some u) ∧ DenL K olds ((cs.drop o).take (nn * i.size)) ∧ olds.all (·.oneCell') = true := fun o ho => by
        obtain ⟨_, us, vs, g1, g2, g3, g4⟩ := s.block hk hl
        have hul := g2.length
        have hl2 : ((us.drop o).take (nn * i.size)).length = nn * i.size := by simp; omega
        exact
          ⟨_, hl2, fun j u hj => by
            rw [addr_add]
            rw [List.getElem?_take] at hj
            split at hj
            · rw [List.getElem?_drop] at hj; simpa using cell_of_block g1 hj
            · (cases hj), (g2.drop o).take _, List.all_eq_true.2 fun u hu => List.all_eq_true.1 g3 u (List.mem_of_mem_drop (List.mem_of_mem_take hu))⟩
      split at hq
      · -- the capacity is not known
        have hS := hnone rfl
        split at hq
        · rename_i hin
          cases hq
          obtain ⟨_, us, vs, g1, g2, g3, g4⟩ := s.block hk hl
          have hul := g2.length
          simp only [List.length_append] at g4
          have hle : nn + n ≤ cap := by
            have : (nn + n) * i.size ≤ cap * i.size := by rw [Nat.add_mul]; omega
            exact Nat.le_of_mul_le_mul_right this h0
          exact inplace hle rfl rfl
        · split at hq <;> try (cases hq; done)
          rename_i hout hc0
          obtain ⟨rfl, rfl⟩ := hc0
          simp only [Option.map_eq_some_iff, Prod.mk.injEq] at hq
          obtain ⟨h2, ha, rfl, rfl⟩ := hq
          simp only [Nat.zero_add] at hp hout ha hS
          by_cases hle : nn + n ≤ cap
          · obtain ⟨w', hst, hgr, O, hO, hB⟩ := write_behind (P := P) s hk hl (0 + nn * i.size) hnd hn1 (by omega) (room hle)
            have hdrop : cs.drop (0 + nn * i.size + ds.length) = [] := List.drop_eq_nil_of_le (by rw [hdl]; omega)
            rw [hdrop, List.append_nil, Nat.zero_add] at hB
            have hfr := s.fresh t (by
              have := (alloc_some ha).1
              by_cases hkt : t = k
              · subst hkt; rw [Heap.raw_set_same] at this; cases this
              · rwa [Heap.raw_set_ne _ _ hkt] at this)
            have hle2 := Ctx.at_le (K := K) b mm hfr
            obtain ⟨h3, s'⟩ := s.move hk ha hl hgr hO (hB.mono hle2)
            exact ⟨_, w', _, run_append_in t0 tx ty ty' i ht hi b 0 nn cap x n news hs hle hst, h3, s', .slr _ _ _ _ _ _ _ _ (K.at_same _ _ _) hle hcm (by omega) (fun _ => by omega) (fun c x => by cases x)⟩
          · obtain ⟨os, ho1, ho2, ho3, ho4⟩ := olds 0 (by omega)
            rw [List.drop_zero] at ho3
            exact append_new (ty := ty) (tx := tx) (s.drop hk) ht hi hz hzs (some ⟨b, 0, none⟩) nn cap ho1 (run_firstCells_some w.drew i.size nn ⟨b, 0, none⟩ nn cap os ho1 ho2) ho3 ho4 hs hnd (by omega) hm hb ha
      · rename_i c'
        have hcc := hsome c' rfl
        subst hcc
        split at hq
        · rename_i hle
          cases hq
          exact inplace hle rfl rfl
        · rename_i hgt
          simp only [Option.map_eq_some_iff, Prod.mk.injEq] at hq
          obtain ⟨h2, ha, rfl, rfl⟩ := hq
          obtain ⟨os, ho1, ho2, ho3, ho4⟩ := olds off (by omega)
          exact append_new (ty := ty) (tx := tx) s ht hi hz hzs (some ⟨b, off, none⟩) nn cap ho1 (run_firstCells_some w.drew i.size nn ⟨b, off, none⟩ nn cap os ho1 ho2) ho3 ho4 hs hnd (by omega) hm hb ha
end

theorem sound_app {P : Program} {N : Nat} {o : Oper} {ty tx et : TypeId} {j : TypeInfo} {z : Value} {x y : Operand} {x' y' : X} (hop : o.op = .call { callee := .builtin .append, args := #[x, y], argTypes := #[ty, tx] })
    (hx : X.of N x = some x') (hy : X.of N y = some y') (hu : P.underlying ty = some (.slice et)) (hk : (∃ e', P.underlying tx = some (.slice e')) ∨ P.underlying tx = some .string) (hj : P.info? et = some j) (hz : j.zero = some z) (hzs : z.cells.size = j.size) (h0 : 0 < j.size) : MSound P N o (.app et j.size j.bytes x' y') := by
  refine ⟨(by rw [hop]; rfl), fun C K h h' w e a t d hP s f hq => ?_⟩
  have hdx := f.rd s hx
  have hdy := (f.rd s hy).wk
  simp only [M.ev, appendD] at hq
  split at hq <;> try (cases hq; done)
  rename_i m ds hsrc
  obtain ⟨news, hS, hnd⟩ := src_den (P := P) s hk hdy hsrc
  have exec : ∀ v' w', (Builtin.append_ #[ty, tx] o.type #[a.eval x, a.eval y]).run P w = .ok v' w' → (execOp a.eval o).run P w = .ok (.value v') w' := fun v' w' hr => by
    simp [execOp, hop, resolve, invoke, builtin, hr]
  split at hq <;> try (cases hq; done)
  split at hq
  · rename_i hone hm0
    subst hm0
    have hnil : news = [] := List.eq_nil_of_length_eq_zero (by rw [hS.newsLen, Nat.zero_mul])
    subst hnil
    obtain ⟨v, hv⟩ : ∃ v, a.eval x = v := ⟨_, rfl⟩
    rw [hv] at hdx
    have fin : ∀ b n c, v = .slice b n c → n ≤ c → ∃ v w' K', Did P o a w v w' ∧ K.le K' ∧ Sim C K' h w' ∧ Den K' v (rd C.pg.gl e x') := fun b n c hvs hle =>
      still s (v := v) (exec _ _ (by rw [hv, hvs]; exact run_append_zero ty tx o.type et j hu hj b n c (a.eval y) hS hle)) hdx
    split at hq <;> try (cases hq; done)
    · rename_i hr
      cases hq
      rw [hr] at hdx
      exact fin none 0 0 hdx.val_eq (Nat.le_refl _)
    · rename_i z es hr
      cases hq
      rw [hr] at hdx
      cases hdx with
      | slnil _ => exact fin none 0 0 rfl (Nat.le_refl _)
      | sl b off cap _ sz' _ us hz' hn hm' hs' hcl hone hdl' => exact fin _ _ _ rfl hn
    · rename_i k off n sz c hr
      cases hq
      rw [hr] at hdx
      cases hdx with
      | slr _ _ _ _ b mm cap _ hl hncap hcm hfit hnone hsome => exact fin _ _ _ rfl hncap
  · rename_i hone hm0
    obtain ⟨v', w', K', hr, hle, s', hd'⟩ := append_sound (ty := o.type) s hu hj hz hzs h0 hdx hS hnd (by omega) hq
    exact ⟨v', w', K', .value _ _ (exec _ _ hr), hle, s', hd'⟩
end Go.Em
