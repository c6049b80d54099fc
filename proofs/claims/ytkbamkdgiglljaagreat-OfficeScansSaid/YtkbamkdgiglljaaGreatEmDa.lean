/- Drawn regions: what does not touch the same may change places. -/
import Derived.Test.YtkbamkdgiglljaaGreatEmD
namespace Go.Em
open Go Go.RowKit

def X.sl : X → List Nat
  | .s n => [n]
  | _ => []
def optL : Option X → List X
  | some x => [x]
  | none => []
def M.xs : M → List X
  | .mv x | .not x | .neg x | .cvi _ x | .box _ _ x | .ld _ _ x | .ldv _ _ x | .nc x | .fa x _ | .fd _ _ _ x | .ex x _ | .len x | .lens x | .cap x | .rng x | .nxt x | .mki _ x | .ta _ _ x | .s2b _ x | .b2s x | .usd x | .clr _ x | .cpl x | .mkmc x | .cbs x => [x]
  | .pick c x y => [c, x, y]
  | .bin _ x y | .eq _ _ x y | .st _ x y | .iaa _ _ x y | .ias _ x y | .ixs x y | .app _ _ _ x y | .apl _ _ _ x y | .apps _ _ x y | .apz _ _ _ _ x y | .cpy _ x y | .mks _ _ _ _ x y | .mm _ x y | .lk _ _ _ x y | .ust x y | .ixa _ _ _ x y => [x, y]
  | .upd _ x y z => [x, y, z]
  | .alloc .. | .mkm => []
  | .bs _ _ _ _ ps => ps.map (·.2)
  | .bst _ _ _ _ ps => ps.map (·.2)
  | .bld _ ps => ps.map (·.2.2)
  | .slc _ x lo hi mx => x :: (optL lo ++ optL hi ++ optL mx)
  | .sls x lo hi => x :: (optL lo ++ optL hi)
  | .sla _ _ x lo hi mx => x :: (optL lo ++ optL hi ++ optL mx)
  | .mkf _ fs cs => fs ++ cs

theorem rd_congr {gl : Nat → Option (List D)} {e e' : List D} {x : X} (h : ∀ s, s ∈ x.sl → e.getD s .junk = e'.getD s .junk) : rd gl e x = rd gl e' x := by
  cases x with
  | s n => exact h n (by simp [X.sl])
  | _ => rfl
theorem optI_congr {gl : Nat → Option (List D)} {e e' : List D} {x : Option X} {d : Int} (h : ∀ y, y ∈ optL x → rd gl e y = rd gl e' y) : optI gl e x d = optI gl e' x d := by
  cases x with
  | none => rfl
  | some y => simp only [optI, h y (by simp [optL])]

theorem M.ev_congr {gl : Nat → Option (List D)} {t : Nat} {e e' : List D} {h : Heap} (m : M) (k : ∀ x, x ∈ m.xs → ∀ s, s ∈ x.sl → e.getD s .junk = e'.getD s .junk) : m.ev gl t e h = m.ev gl t e' h ∧ m.tch gl t e = m.tch gl t e' := by
  have key : ∀ x, x ∈ m.xs → rd gl e x = rd gl e' x := fun x hx => rd_congr (k x hx)
  clear k
  cases m
  case bs et sz n z ps =>
    have : ps.map (fun p => (p.1 * sz, sz, rd gl e p.2)) = ps.map (fun p => (p.1 * sz, sz, rd gl e' p.2)) := List.map_congr_left fun p hp => by
      rw [key p.2 (by simp only [M.xs, List.mem_map]; exact ⟨p, hp, rfl⟩)]
    exact ⟨by simp only [M.ev, this], rfl⟩
  case bst et sz n z ps =>
    have : ps.map (fun p => (p.1 * sz, sz, rd gl e p.2)) = ps.map (fun p => (p.1 * sz, sz, rd gl e' p.2)) := List.map_congr_left fun p hp => by
      rw [key p.2 (by simp only [M.xs, List.mem_map]; exact ⟨p, hp, rfl⟩)]
    exact ⟨by simp only [M.ev, this], rfl⟩
  case bld z ps =>
    have : ps.map (fun p => (p.1, p.2.1, rd gl e p.2.2)) = ps.map (fun p => (p.1, p.2.1, rd gl e' p.2.2)) := List.map_congr_left fun p hp => by
      rw [key p.2.2 (by simp only [M.xs, List.mem_map]; exact ⟨p, hp, rfl⟩)]
    exact ⟨by simp only [M.ev, this], rfl⟩
  case mkf f fs cs =>
    have h1 : fs.map (rd gl e) = fs.map (rd gl e') := List.map_congr_left fun x hx => key x (by simp [M.xs, hx])
    have h2 : cs.map (rd gl e) = cs.map (rd gl e') := List.map_congr_left fun x hx => key x (by simp [M.xs, hx])
    exact ⟨by simp only [M.ev, h1, h2], rfl⟩
  case slc sz x lo hi mx =>
    have hx := key x (by simp [M.xs])
    have h1 : ∀ c, optI gl e lo c = optI gl e' lo c := fun c => optI_congr fun y hy => key y (by simp [M.xs, hy])
    have h2 : ∀ c, optI gl e hi c = optI gl e' hi c := fun c => optI_congr fun y hy => key y (by simp [M.xs, hy])
    have h3 : ∀ c, optI gl e mx c = optI gl e' mx c := fun c => optI_congr fun y hy => key y (by simp [M.xs, hy])
    refine ⟨?_, rfl⟩
    cases mx with
    | none => simp only [M.ev, hx, h1, h2]
    | some m => simp only [M.ev, hx, h1, h2, h3]
  case sls x lo hi =>
    have hx := key x (by simp [M.xs])
    have h1 : ∀ c, optI gl e lo c = optI gl e' lo c := fun c => optI_congr fun y hy => key y (by simp [M.xs, hy])
    have h2 : ∀ c, optI gl e hi c = optI gl e' hi c := fun c => optI_congr fun y hy => key y (by simp [M.xs, hy])
    exact ⟨by simp only [M.ev, hx, h1, h2], rfl⟩
  case sla m sz x lo hi mx =>
    have hx := key x (by simp [M.xs])
    have h1 : ∀ c, optI gl e lo c = optI gl e' lo c := fun c => optI_congr fun y hy => key y (by simp [M.xs, hy])
    have h2 : ∀ c, optI gl e hi c = optI gl e' hi c := fun c => optI_congr fun y hy => key y (by simp [M.xs, hy])
    have h3 : ∀ c, optI gl e mx c = optI gl e' mx c := fun c => optI_congr fun y hy => key y (by simp [M.xs, hy])
    exact ⟨by simp only [M.ev, hx, h1, h2, h3], rfl⟩
  all_goals
    simp only [M.xs, List.mem_cons, List.not_mem_nil, or_false, forall_eq_or_imp, forall_eq] at key
    exact ⟨by simp only [M.ev, key], by simp only [M.tch, key]⟩

theorem M.heapless {gl : Nat → Option (List D)} {t : Nat} {e : List D} (m : M) (hk : m.kind = 0) : (∀ h p, m.ev gl t e h = some p → p.2 = h) ∧ ∀ h h2, m.ev gl t e h2 = (m.ev gl t e h).map fun p => (p.1, h2) := by
  cases m <;> simp only [M.kind] at hk <;> (try (cases hk; done)) <;> clear hk
  all_goals
    refine ⟨fun h p hp => ?_, fun h h2 => ?_⟩
    · simp only [M.ev] at hp
      first
        | (cases hp; rfl; done)
        | (simp only [Option.map_eq_some_iff] at hp; obtain ⟨_, _, rfl⟩ := hp; rfl; done)
        | (repeat' split at hp
           all_goals first
             | (cases hp; done)
             | (cases hp; rfl; done)
             | (simp only [Option.map_eq_some_iff] at hp; obtain ⟨_, _, rfl⟩ := hp; rfl; done))
    · simp only [M.ev]
      first
        | rfl
        | (simp only [Option.map_map]; rfl)
        | (repeat' split
           all_goals first
             | rfl
             | (simp only [Option.map_map]; rfl)
             | (simp_all; done))

theorem Heap.kill_raw (h : Heap) (k : Nat) : ∀ U : List Nat, (h.kill U).raw k = if k ∈ U then some none else h.raw k := by
  intro U
  induction U generalizing h with
  | nil => rfl
  | cons j U ih =>
    simp only [Heap.kill, ih, List.mem_cons]
    by_cases h1 : k ∈ U
    · simp [h1]
    · by_cases h2 : k = j
      · subst h2; simp [h1]
      · simp [h1, h2, Heap.raw_set_ne _ _ h2]

theorem Heap.kill_set (h : Heap) (k : Nat) (b : Option Blk) : ∀ U : List Nat, k ∈ U → (h.set k b).kill U = h.kill U := by
  intro U
  induction U generalizing h with
  | nil => intro hk; cases hk
  | cons j U ih =>
    intro hk
    simp only [Heap.kill]
    by_cases h2 : k = j
    · subst h2; rw [Heap.set_set]
    · have : k ∈ U := by rcases List.mem_cons.1 hk with rfl | h; exact absurd rfl h2; exact h
      rw [Heap.set_comm h b none h2, ih _ this]

abbrev Ups := List (Nat × Option Blk)
def Heap.sets (h : Heap) (u : Ups) : Heap := u.foldl (fun h p => h.set p.1 p.2) h
theorem Heap.kill_as : ∀ (ks : List Nat) (h : Heap), h.kill ks = h.sets (ks.map fun k => (k, none))
  | [], _ => rfl
  | k :: ks, h => Heap.kill_as ks (h.set k none)
theorem Heap.kill_sets (U : List Nat) : ∀ (u : Ups) (h : Heap), (∀ p, p ∈ u → p.1 ∈ U) → (h.sets u).kill U = h.kill U
  | [], h, _ => rfl
  | p :: u, h, hk => by
    show ((h.set p.1 p.2).sets u).kill U = _
    rw [Heap.kill_sets U u _ fun q hq => hk q (by simp [hq]), Heap.kill_set _ _ _ _ (hk p (by simp))]
theorem Heap.set_sets (k : Nat) (b : Option Blk) : ∀ (u : Ups) (h : Heap), (∀ p, p ∈ u → p.1 ≠ k) → (h.set k b).sets u = (h.sets u).set k b
  | [], h, _ => rfl
  | p :: u, h, hk => by
    show ((h.set k b).set p.1 p.2).sets u = ((h.set p.1 p.2).sets u).set k b
    rw [Heap.set_comm h b p.2 (Ne.symm (hk p (by simp))), Heap.set_sets k b u _ fun q hq => hk q (by simp [hq])]
theorem Heap.get_sets_out {k : Nat} : ∀ (u : Ups) (h : Heap), (∀ p, p ∈ u → p.1 ≠ k) → (h.sets u).get k = h.get k
  | [], _, _ => rfl
  | p :: u, h, hp => by
    show ((h.set p.1 p.2).sets u).get k = h.get k
    rw [Heap.get_sets_out u _ fun q hq => hp q (by simp [hq])]
    exact Heap.get_set_ne h _ (fun e => hp p (by simp) e.symm)
theorem Heap.fzd_sets_out {k : Nat} : ∀ (u : Ups) (h : Heap), (∀ p, p ∈ u → p.1 ≠ k) → (h.sets u).fzd k = h.fzd k
  | [], _, _ => rfl
  | p :: u, h, hp => by
    show ((h.set p.1 p.2).sets u).fzd k = h.fzd k
    rw [Heap.fzd_sets_out u _ fun q hq => hp q (by simp [hq])]
    exact Heap.fzd_set_ne h _ (fun e => hp p (by simp) e.symm)
theorem Heap.sets_comm : ∀ (u v : Ups) (h : Heap), (∀ p q, p ∈ u → q ∈ v → p.1 ≠ q.1) → (h.sets u).sets v = (h.sets v).sets u
  | u, [], h, _ => rfl
  | u, q :: v, h, hk => by
    show ((h.sets u).set q.1 q.2).sets v = ((h.set q.1 q.2).sets v).sets u
    rw [← Heap.set_sets q.1 q.2 u h fun p hp => hk p q hp (by simp), Heap.sets_comm u v _ fun p r hp hr => hk p r hp (by simp [hr])]

section
variable {h0 h2 : Heap} {U : List Nat}
theorem get_of (hh : h2.kill U = h0.kill U) {k : Nat} {B : Blk} (hg : (h0.kill U).get k = some B) : k ∉ U ∧ h2.get k = some B := by
  rw [← hh] at hg
  have hp := Heap.get_plain hg
  have := Heap.raw_of_get hg
  rw [Heap.kill_raw] at this
  by_cases hk : k ∈ U
  · rw [if_pos hk] at this; cases this
  · rw [if_neg hk] at this; exact ⟨hk, by simp [Heap.get, this, hp]⟩
theorem other_of (hh : h2.kill U = h0.kill U) {k : Nat} {cs : List D} (hn : ∀ ty c, (h0.kill U).get k ≠ some (.cells ty c)) (hg : (h0.kill U).fzd k = some cs) : (∀ ty c, h2.get k ≠ some (.cells ty c)) ∧ h2.fzd k = some cs := by
  rw [← hh] at hn hg
  rw [Heap.kill_fzd] at hg
  by_cases hk : k ∈ U
  · rw [if_pos hk] at hg; cases hg
  · rw [if_neg hk] at hg
    refine ⟨fun ty c e => hn ty c ?_, hg⟩
    unfold Heap.get at e ⊢
    rw [Heap.kill_raw, if_neg hk]; exact e
theorem rdc_of (hh : h2.kill U = h0.kill U) {k : Nat} {cs : List D} (hg : (h0.kill U).rdc k = some cs) : h2.rdc k = some cs := by
  rcases Heap.rdc_cases hg with ⟨ty, g⟩ | ⟨hn, g⟩
  · exact Heap.rdc_cells (get_of hh g).2
  · obtain ⟨i1, i2⟩ := other_of hh hn g
    exact Heap.rdc_fzd i1 i2
theorem rdv_of (hh : h2.kill U = h0.kill U) {k : Nat} {cs : List D} (hg : (h0.kill U).rdv k = some cs) : h2.rdv k = some cs := by
  rcases Heap.rdv_cases hg with g | ⟨g1, g2⟩
  · exact Heap.rdv_rdc (rdc_of hh g)
  · rw [← hh] at g1 g2
    obtain ⟨i1, i2⟩ := Heap.vget_of_kill U h2 g2
    have hk : k ∉ U := fun hk => by
      have : (h2.kill U).raw k = some none := by rw [Heap.kill_raw, if_pos hk]
      unfold Heap.vget at g2
      rw [this] at g2; cases g2
    refine Heap.rdv_view ?_ i1
    have hz : (h2.kill U).fzd k = none := by
      cases hz : (h2.kill U).fzd k with
      | none => rfl
      | some c =>
        have := Heap.rdc_fzd (h := h2.kill U) (k := k) (fun ty c e => by rw [Heap.vget_get g2] at e; cases e) hz
        rw [this] at g1; cases g1
    rw [Heap.kill_fzd, if_neg hk] at hz
    unfold Heap.rdc
    rw [Heap.vget_get i1]; exact hz
theorem raw_of (hh : h2.kill U = h0.kill U) {k : Nat} (hg : (h0.kill U).raw k = none) : k ∉ U ∧ h2.raw k = none := by
  rw [← hh, Heap.kill_raw] at hg
  by_cases hk : k ∈ U
  · rw [if_pos hk] at hg; cases hg
  · rw [if_neg hk] at hg; exact ⟨hk, hg⟩
theorem alloc_of {t : Nat} {B : Blk} {g : Heap} (ha : (h0.kill U).alloc t B = some g) : t ∉ U ∧ ∀ h2 : Heap, h2.kill U = h0.kill U → h2.alloc t B = some (h2.set t (some B)) := by
  unfold Heap.alloc at ha
  split at ha <;> cases ha
  rename_i hr
  refine ⟨(raw_of (h0 := h0) (h2 := h0) rfl hr).1, fun h2 hh => ?_⟩
  unfold Heap.alloc
  rw [(raw_of hh hr).2]
theorem src_of (hh : h2.kill U = h0.kill U) {sz : Nat} {y : D} {r : Nat × List D} (hs : src (h0.kill U) sz y = some r) : src h2 sz y = some r := by
  unfold src at hs ⊢
  split at hs <;> try (cases hs; done)
  · exact hs
  · split at hs <;> try (cases hs; done)
    rename_i hg
    rw [rdc_of hh hg]; exact hs
  · exact hs
theorem mapOf_of (hh : h2.kill U = h0.kill U) {x : D} {r : List (D × D)} (hs : mapOf (h0.kill U) x = some r) : mapOf h2 x = some r := by
  unfold mapOf at hs ⊢
  split at hs <;> try (cases hs; done)
  · exact hs
  · exact hs
  · split at hs <;> try (cases hs; done)
    rename_i hg
    rw [(get_of hh hg).2]; exact hs

theorem opn_of (hh : h2.kill U = h0.kill U) {k : Nat} {r : TypeId × List D} (hg : opn ((h0.kill U).raw k) = some r) : k ∉ U ∧ opn (h2.raw k) = some r := by
  rw [← hh, Heap.kill_raw] at hg
  by_cases hk : k ∈ U
  · rw [if_pos hk] at hg; cases hg
  · rw [if_neg hk] at hg; exact ⟨hk, hg⟩
def Loc (T U : List Nat) (h0 : Heap) (f : Heap → Option (D × Heap)) (d : D) : Prop :=
  ∃ ups : Ups, (∀ p, p ∈ ups → p.1 ∈ T ∧ p.1 ∉ U) ∧ ∀ h2 : Heap, h2.kill U = h0.kill U → f h2 = some (d, h2.sets ups)

theorem appD_loc {t et sz bytes : Nat} {x : D} {m : Nat} {news : List D} {d : D} {g : Heap} {T : List Nat} (h : appD t et sz bytes (h0.kill U) x m news = some (d, g)) (ht : t ∈ T) (hT : ∀ k o n sz c, x = .slr k o n sz c → k ∈ T) :
    Loc T U h0 (fun h => appD t et sz bytes h x m news) d := by
  have fresh : ∀ {B : Blk} {r : D} {T : List Nat} {F : Heap → Option (D × Heap)}, ((h0.kill U).alloc t B).map (fun h => (r, h)) = some (d, g) → t ∈ T → (∀ h2, h2.kill U = h0.kill U → F h2 = (h2.alloc t B).map fun h => (r, h)) → Loc T U h0 F d := fun {B r T F} ha ht hF => by
    simp only [Option.map_eq_some_iff, Prod.mk.injEq] at ha
    obtain ⟨g', ha, rfl, rfl⟩ := ha
    obtain ⟨h1, h2⟩ := alloc_of ha
    exact ⟨[(t, some B)], fun p hp => by simp only [List.mem_singleton] at hp; subst hp; exact ⟨ht, h1⟩, fun h3 hh => by rw [hF h3 hh, h2 h3 hh]; rfl⟩
  unfold appD at h
  split at h
  · split at h <;> try (cases h; done)
    rename_i hc
    exact fresh h ht fun h2 _ => by simp only [appD, if_pos hc]
  · split at h <;> try (cases h; done)
    rename_i hc
    exact fresh h ht fun h2 _ => by simp only [appD, if_pos hc]
  · rename_i k o n sz' c
    split at h <;> try (cases h; done)
    rename_i ty cs hg
    obtain ⟨hkU, _⟩ := get_of (h0 := h0) (h2 := h0) rfl hg
    simp only at h
    split at h <;> try (cases h; done)
    rename_i hc
    have write : ∀ {B : Blk} {r : D} {F : Heap → Option (D × Heap)}, some (r, (h0.kill U).set k (some B)) = some (d, g) → (∀ h2, h2.kill U = h0.kill U → F h2 = some (r, h2.set k (some B))) → Loc T U h0 F d := fun {B r F} ha hF => by
      simp only [Option.some.injEq, Prod.mk.injEq] at ha
      obtain ⟨rfl, _⟩ := ha
      exact ⟨[(k, some B)], fun p hp => by simp only [List.mem_singleton] at hp; subst hp; exact ⟨hT _ _ _ _ _ rfl, hkU⟩, fun h3 hh => by rw [hF h3 hh]; rfl⟩
    split at h
    · split at h
      · rename_i h1
        exact write h fun h2 hh => by simp only [appD, (get_of hh hg).2, if_pos hc, if_pos h1]
      · rename_i h1
        split at h <;> try (cases h; done)
        rename_i h3
        simp only [Option.map_eq_some_iff, Prod.mk.injEq] at h
        obtain ⟨g', ha, rfl, rfl⟩ := h
        unfold Heap.alloc at ha
        split at ha <;> cases ha
        rename_i hr
        have htk : t ≠ k := fun e => by subst e; rw [Heap.raw_set_same] at hr; cases hr
        rw [Heap.raw_set_ne _ _ htk] at hr
        obtain ⟨htU, _⟩ := raw_of (h0 := h0) (h2 := h0) rfl hr
        refine ⟨[(k, none), (t, some (.cells et (cs.take (o + n * sz) ++ news)))], fun p hp => ?_, fun h4 hh => ?_⟩
        · simp only [List.mem_cons, List.not_mem_nil, or_false] at hp
          rcases hp with rfl | rfl
          · exact ⟨hT _ _ _ _ _ rfl, hkU⟩
          · exact ⟨ht, htU⟩
        · have hr4 := (raw_of hh hr).2
          simp only [appD, (get_of hh hg).2, if_pos hc, if_neg h1, if_pos h3]
          simp only [Heap.alloc, Heap.raw_set_ne _ _ htk, hr4]
          rfl
    · rename_i c'
      split at h
      · rename_i h1
        exact write h fun h2 hh => by simp only [appD, (get_of hh hg).2, if_pos hc, if_pos h1]
      · rename_i h1
        exact fresh h ht fun h2 hh => by simp only [appD, (get_of hh hg).2, if_pos hc, if_neg h1]
  · cases h

theorem aplD_loc {t et sz bytes : Nat} {x : D} {m : Nat} {news : List D} {d : D} {g : Heap} {T : List Nat} (h : aplD t et sz bytes (h0.kill U) x m news = some (d, g)) (ht : t ∈ T) (hT : ∀ k o n sz c, x = .slr k o n sz c → k ∈ T) :
    Loc T U h0 (fun h => aplD t et sz bytes h x m news) d := by
  unfold aplD at h
  split at h
  · rename_i k n sz'
    split at h <;> try (cases h; done)
    rename_i ty cs hg
    split at h <;> try (cases h; done)
    rename_i hc
    simp only [Option.map_eq_some_iff, Prod.mk.injEq] at h
    obtain ⟨g', ha, rfl, rfl⟩ := h
    unfold Heap.alloc at ha
    split at ha <;> cases ha
    rename_i hr
    have htk : t ≠ k := fun e => by subst e; rw [Heap.raw_set_same] at hr; cases hr
    rw [Heap.raw_set_ne _ _ htk] at hr
    obtain ⟨htU, _⟩ := raw_of (h0 := h0) (h2 := h0) rfl hr
    obtain ⟨hkU, _⟩ := opn_of (h0 := h0) (h2 := h0) rfl hg
    refine ⟨[(k, some (.par ty cs t)), (t, some (.kid et (cs ++ news) k))], fun p hp => ?_, fun h4 hh => ?_⟩
    · simp only [List.mem_cons, List.not_mem_nil, or_false] at hp
      rcases hp with rfl | rfl
      · exact ⟨hT _ _ _ _ _ rfl, hkU⟩
      · exact ⟨ht, htU⟩
    · have hr4 := (raw_of hh hr).2
      simp only [aplD, (opn_of hh hg).2, if_pos hc]
      simp only [Heap.alloc, Heap.raw_set_ne _ _ htk, hr4]
      rfl
  · rename_i hx
    obtain ⟨ups, i1, i2⟩ := appD_loc h ht hT
    refine ⟨ups, i1, fun h2 hh => ?_⟩
    unfold aplD
    split
    · exact absurd rfl (hx _ _ _)
    · exact i2 h2 hh

theorem M.loc {gl : Nat → Option (List D)} {t : Nat} {e : List D} (m : M) (hk : m.kind = 1) {d : D} {g : Heap} (h : m.ev gl t e (h0.kill U) = some (d, g)) : Loc (m.tch gl t e) U h0 (fun h => m.ev gl t e h) d := by
  have fresh : ∀ {B : Blk} {r : D} {T : List Nat} {F : Heap → Option (D × Heap)}, ((h0.kill U).alloc t B).map (fun h => (r, h)) = some (d, g) → t ∈ T → (∀ h2, h2.kill U = h0.kill U → F h2 = (h2.alloc t B).map fun h => (r, h)) → Loc T U h0 F d := fun {B r T F} ha ht hF => by
    simp only [Option.map_eq_some_iff, Prod.mk.injEq] at ha
    obtain ⟨g', ha, rfl, rfl⟩ := ha
    obtain ⟨h1, h2⟩ := alloc_of ha
    exact ⟨[(t, some B)], fun p hp => by simp only [List.mem_singleton] at hp; subst hp; exact ⟨ht, h1⟩, fun h3 hh => by rw [hF h3 hh, h2 h3 hh]; rfl⟩
  have reads : ∀ {F : Heap → Option (D × Heap)} {T : List Nat}, (∀ h2, h2.kill U = h0.kill U → F h2 = some (d, h2)) → Loc T U h0 F d := fun hF => ⟨[], fun p hp => (by cases hp), hF⟩
  cases m <;> simp only [M.kind] at hk <;> (try (cases hk; done)) <;> clear hk
  case alloc ty z => simp only [M.ev] at h; exact fresh h (by simp [M.tch]) fun h2 _ => by simp only [M.ev]
  case box ty n x =>
    simp only [M.ev] at h
    split at h <;> try (cases h; done)
    rename_i hc
    exact fresh h (by simp [M.tch]) fun h2 _ => by simp only [M.ev, if_pos hc]
  case ld ag n x =>
    simp only [M.ev] at h
    split at h <;> try (cases h; done)
    · rename_i k o hx
      split at h <;> try (cases h; done)
      rename_i hg
      split at h <;> try (cases h; done)
      rename_i hc
      cases h
      exact reads fun h2 hh => by simp only [M.ev, hx, rdc_of hh hg, if_pos hc]
    · rename_i cs hx
      split at h <;> try (cases h; done)
      rename_i hc
      cases h
      exact reads fun h2 hh => by simp only [M.ev, hx, if_pos hc]
  case ldv ag n x =>
    simp only [M.ev] at h
    split at h <;> try (cases h; done)
    · rename_i k o hx
      split at h <;> try (cases h; done)
      rename_i hg
      split at h <;> try (cases h; done)
      rename_i hc
      cases h
      exact reads fun h2 hh => by simp only [M.ev, hx, rdv_of hh hg, if_pos hc]
    · rename_i cs hx
      split at h <;> try (cases h; done)
      rename_i hc
      cases h
      exact reads fun h2 hh => by simp only [M.ev, hx, if_pos hc]
  case st n x y =>
    simp only [M.ev] at h
    split at h <;> try (cases h; done)
    rename_i k o hx
    split at h <;> try (cases h; done)
    rename_i ty cs hg
    split at h <;> try (cases h; done)
    rename_i hc
    cases h
    obtain ⟨hkU, _⟩ := get_of (h0 := h0) (h2 := h0) rfl hg
    exact ⟨[(k, _)], fun p hp => by simp only [List.mem_singleton] at hp; subst hp; exact ⟨by simp [M.tch, hx], hkU⟩, fun h2 hh => by simp only [M.ev, hx, (get_of hh hg).2, if_pos hc]; rfl⟩
  case cpy sz x y =>
    simp only [M.ev] at h
    split at h <;> try (cases h; done)
    · rename_i z p hx hs
      cases h
      exact reads fun h2 hh => by simp only [M.ev, hx, src_of hh hs]
    · rename_i k o n sz' c m news hx hs
      split at h <;> try (cases h; done)
      rename_i ty cs hg
      split at h <;> try (cases h; done)
      rename_i hc
      cases h
      obtain ⟨hkU, _⟩ := get_of (h0 := h0) (h2 := h0) rfl hg
      exact ⟨[(k, _)], fun p hp => by simp only [List.mem_singleton] at hp; subst hp; exact ⟨by simp [M.tch, hx], hkU⟩, fun h2 hh => by simp only [M.ev, hx, src_of hh hs, (get_of hh hg).2, if_pos hc]; rfl⟩
  case clr z x =>
    simp only [M.ev] at h
    split at h <;> try (cases h; done)
    · rename_i z0 hx
      cases h
      exact reads fun h2 hh => by simp only [M.ev, hx]
    · rename_i k o n sz c hx
      split at h
      · rename_i hn0
        cases h
        exact reads fun h2 hh => by simp only [M.ev, hx, if_pos hn0]
      · rename_i hn0
        split at h <;> try (cases h; done)
        rename_i ty cs hg
        split at h <;> try (cases h; done)
        rename_i hc
        cases h
        obtain ⟨hkU, _⟩ := get_of (h0 := h0) (h2 := h0) rfl hg
        exact ⟨[(k, _)], fun p hp => by simp only [List.mem_singleton] at hp; subst hp; exact ⟨by simp [M.tch, hx], hkU⟩, fun h2 hh => by simp only [M.ev, hx, if_neg hn0, (get_of hh hg).2, if_pos hc]; rfl⟩
  case app et sz bytes x y =>
    simp only [M.ev, appendD] at h
    split at h <;> try (cases h; done)
    rename_i m news hs
    split at h <;> try (cases h; done)
    rename_i hn
    split at h
    · rename_i hm
      split at h <;> try (cases h; done)
      all_goals
        rename_i hx
        cases h
        refine reads fun h2 hh => ?_
        simp only [M.ev, appendD, src_of hh hs, if_pos hn, if_pos hm]
        try simp only [hx]
    · rename_i hm
      obtain ⟨ups, i1, i2⟩ := appD_loc (T := M.tch gl t e (.app et sz bytes x y)) h (by simp only [M.tch]; split <;> simp) (fun k o n sz c hx => by simp only [M.tch, hx]; simp)
      refine ⟨ups, i1, fun h2 hh => ?_⟩
      · simp only [M.ev, appendD, src_of hh hs, if_pos hn, if_neg hm]
        exact i2 h2 hh
  case apl et sz bytes x y =>
    simp only [M.ev, aplendD] at h
    split at h <;> try (cases h; done)
    rename_i m news hs
    split at h <;> try (cases h; done)
    rename_i hn
    split at h <;> try (cases h; done)
    rename_i hm
    obtain ⟨ups, i1, i2⟩ := aplD_loc (T := M.tch gl t e (.apl et sz bytes x y)) h (by simp only [M.tch]; split <;> simp) (fun k o n sz c hx => by simp only [M.tch, hx]; simp)
    refine ⟨ups, i1, fun h2 hh => ?_⟩
    simp only [M.ev, aplendD, src_of hh hs, if_pos hn, if_neg hm]
    exact i2 h2 hh
  case bs et sz n z ps =>
    simp only [M.ev] at h
    split at h <;> try (cases h; done)
    rename_i cs hc
    exact fresh h (by simp [M.tch]) fun h2 _ => by simp only [M.ev, hc]
  case bst et sz n z ps =>
    simp only [M.ev] at h
    split at h <;> try (cases h; done)
    rename_i cs hc
    split at h
    · rename_i hcc
      simp only [Option.map_eq_some_iff, Prod.mk.injEq] at h
      obtain ⟨g', ha, rfl, rfl⟩ := h
      obtain ⟨h1, h2⟩ := alloc_of ha
      refine ⟨[(t, some (.cells et cs)), (t, none)], fun p hp => ?_, fun h3 hh => by simp only [M.ev, hc, if_pos hcc, h2 h3 hh]; rfl⟩
      simp only [List.mem_cons, List.not_mem_nil, or_false] at hp
      rcases hp with rfl | rfl
      · exact ⟨by simp [M.tch], h1⟩
      · exact ⟨by simp [M.tch], h1⟩
    · rename_i hcc
      split at h <;> try (cases h; done)
      rename_i ds hds
      split at h <;> try (cases h; done)
      rename_i hc2
      simp only [Option.map_eq_some_iff, Prod.mk.injEq] at h
      obtain ⟨g', ha, rfl, rfl⟩ := h
      obtain ⟨h1, h2⟩ := alloc_of ha
      refine ⟨[(t, some (.cells et cs)), (t, none)], fun p hp => ?_, fun h3 hh => by simp only [M.ev, hc, if_neg hcc, hds, if_pos hc2, h2 h3 hh]; rfl⟩
      simp only [List.mem_cons, List.not_mem_nil, or_false] at hp
      rcases hp with rfl | rfl
      · exact ⟨by simp [M.tch], h1⟩
      · exact ⟨by simp [M.tch], h1⟩
  case mks et sz bytes z l c =>
    simp only [M.ev] at h
    split at h <;> try (cases h; done)
    rename_i hl hcc
    split at h <;> try (cases h; done)
    rename_i hc
    exact fresh h (by simp [M.tch]) fun h2 _ => by simp only [M.ev, hl, hcc, if_pos hc]
  case slc sz x lo hi mx =>
    have tree : ∀ r : D, rd gl e x = r → (∀ k o n sz' c, r ≠ .slr k o n sz' c) → (r ≠ .val (.slice none 0 0)) → Loc (M.tch gl t e (.slc sz x lo hi mx)) U h0 (fun h => M.ev gl t e h (.slc sz x lo hi mx)) d := fun r hr hne hne2 => by
      refine reads fun h2 hh' => ?_
      simp only [M.ev, hr] at h ⊢
      split at h <;> try (cases h; done)
      rename_i es hw
      split at h <;> try (cases h; done)
      rename_i l hh hlo hhi
      split at h <;> try (cases h; done)
      rename_i hc
      try simp only [hlo, hhi]
      try simp only [if_pos hc]
      split at h
      · cases h; rfl
      · split at h <;> try (cases h; done)
        rename_i hm
        split at h <;> try (cases h; done)
        rename_i hmh
        cases h
        try simp only [hm]
        try simp only [if_pos hmh]
    cases hr : rd gl e x with
    | slr k o n sz' c =>
      simp only [M.ev, hr] at h
      split at h <;> try (cases h; done)
      rename_i cs l hh hg hlo hhi
      split at h <;> try (cases h; done)
      rename_i hc
      split at h
      · simp only [Option.map_eq_some_iff, Prod.mk.injEq] at h
        obtain ⟨d', hd, rfl, _⟩ := h
        refine reads fun h2 hh' => ?_
        simp only [M.ev, hr, rdc_of hh' hg, hlo, hhi, if_pos hc, hd, Option.map_some]
      · split at h <;> try (cases h; done)
        rename_i hm
        simp only [Option.map_eq_some_iff, Prod.mk.injEq] at h
        obtain ⟨d', hd, rfl, _⟩ := h
        refine reads fun h2 hh' => ?_
        simp only [M.ev, hr, rdc_of hh' hg, hlo, hhi, if_pos hc, hm, hd, Option.map_some]
    | val v =>
      by_cases hv : v = .slice none 0 0
      · subst hv
        simp only [M.ev, hr] at h
        split at h <;> try (cases h; done)
        rename_i hlo hhi
        cases h
        exact reads fun h2 hh' => by simp only [M.ev, hr, hlo, hhi]
      · exact tree _ hr (fun _ _ _ _ _ x => (by cases x)) (fun x => hv (by injection x))
    | _ => exact tree _ hr (fun _ _ _ _ _ x => (by cases x)) (fun x => (by cases x))
  case mkmc x =>
    simp only [M.ev] at h
    split at h <;> try (cases h; done)
    rename_i k n hc
    exact fresh h (by simp [M.tch]) fun h2 _ => by simp only [M.ev, hc]
  case mkm => simp only [M.ev] at h; exact fresh h (by simp [M.tch]) fun h2 _ => by simp only [M.ev]
  case b2s x =>
    simp only [M.ev] at h
    split at h <;> try (cases h; done)
    rename_i hne
    split at h <;> try (cases h; done)
    rename_i m ds hs
    simp only [Option.map_eq_some_iff, Prod.mk.injEq] at h
    obtain ⟨l, hl, rfl, _⟩ := h
    refine reads fun h2 hh => ?_
    simp only [M.ev, src_of hh hs, hl, Option.map_some]
  case lk ck z ok x k =>
    simp only [M.ev] at h
    split at h <;> try (cases h; done)
    rename_i es hm
    split at h <;> try (cases h; done)
    · rename_i hf
      cases h
      exact reads fun h2 hh => by simp only [M.ev, mapOf_of hh hm, hf]
    · rename_i hf
      cases h
      exact reads fun h2 hh => by simp only [M.ev, mapOf_of hh hm, hf]
end

def HK.sl : HK → List Nat
  | .fr _ => []
  | .at s | .keep s | .av s => [s]
def G.xs (g : G) : List X := match g.o with
  | .inl m => m.xs
  | .inr (.fn _ args) => args
  | .inr (.val _ x args) => x :: args
  | .inr _ => []
def DG.rs (x : DG) : List Nat := (match x.g.g with | some (d, _) => [d] | none => []) ++ x.g.xs.flatMap X.sl ++ x.hs.flatMap HK.sl ++ (x.ts.getD []).flatMap HK.sl
def notIn (d : Option Nat) (l : List Nat) : Bool := match d with
  | some d => !l.contains d
  | none => true
def hid (i j : DG) : Bool := match i.ts, j.ts with
  | some a, some b => a.all j.hs.contains && b.all i.hs.contains && i.local && j.local
  | _, _ => false
def DG.full (x : DG) : Bool := match x.g.o, x.ts with
  | .inr (.fn ..), none => true
  | .inr (.val ..), none => true
  | _, _ => false
def kept (r t : DG) : Bool := (match r.g.o, r.ts with
  | .inl (.ld ..), some [] => true
  | _, _ => false) && r.hs.any HK.isKeep && (r.hs.all fun k => match k with
    | .keep s => t.hs.contains (.av s)
    | _ => false) && ((t.ts.isSome && t.local) || t.full)
def DG.free (i j : DG) : Bool := notIn i.g.d j.rs && notIn j.g.d i.rs && otherD i.g.d j.g.d && (i.light || j.light || hid i j || kept i j || kept j i)

theorem put_getD {e : List D} {d : Option Nat} {v : D} {s : Nat} (h : d ≠ some s) : (put e d v).getD s .junk = e.getD s .junk := by
  cases d with
  | none => rfl
  | some d =>
    have : d ≠ s := fun x => h (by rw [x])
    simp only [put, List.getD_eq_getElem?_getD, List.getElem?_set_ne this]
theorem put_comm {e : List D} {a b : Option Nat} {u v : D} (h : otherD a b = true) : put (put e a u) b v = put (put e b v) a u := by
  cases a <;> cases b <;> simp only [put]
  rename_i a b
  exact List.set_comm _ _ (by simpa [otherD] using h)
theorem notIn_spec {d : Option Nat} {l : List Nat} (h : notIn d l = true) {s : Nat} (hs : s ∈ l) : d ≠ some s := by
  rintro rfl
  simp [notIn] at h
  exact h hs

section
variable {c : Cfg} {R : Rc} {base : Nat}

theorem hids_congr {e e' : List D} : ∀ l : List HK, (∀ s, s ∈ l.flatMap HK.sl → e.getD s .junk = e'.getD s .junk) → hids base e l = hids base e' l
  | [], _ => rfl
  | k :: l, h => by
    have h1 : HK.id base e k = HK.id base e' k := by
      cases k with
      | fr s => rfl
      | «at» s => simp only [HK.id, h s (by simp [HK.sl])]
      | keep s => rfl
      | av s => rfl
    have h2 := hids_congr l fun s hs => h s (by rw [List.flatMap_cons]; exact List.mem_append_right _ hs)
    unfold hids at h2 ⊢
    simp only [List.filterMap_cons, h1, h2]

theorem kids_congr {e e' : List D} : ∀ l : List HK, (∀ s, s ∈ l.flatMap HK.sl → e.getD s .junk = e'.getD s .junk) → kids base e l = kids base e' l ∧ avids base e l = avids base e' l
  | [], _ => ⟨rfl, rfl⟩
  | k :: l, h => by
    have h1 : HK.kid base e k = HK.kid base e' k ∧ HK.avid base e k = HK.avid base e' k := by
      cases k with
      | fr s => exact ⟨rfl, rfl⟩
      | «at» s => exact ⟨rfl, rfl⟩
      | keep s => exact ⟨by simp only [HK.kid, HK.id, h s (by simp [HK.sl])], rfl⟩
      | av s => exact ⟨rfl, by simp only [HK.avid, HK.id, h s (by simp [HK.sl])]⟩
    have h2 := kids_congr l fun s hs => h s (by rw [List.flatMap_cons]; exact List.mem_append_right _ hs)
    unfold kids avids at h2 ⊢
    simp only [List.filterMap_cons, h1.1, h1.2, h2.1, h2.2, and_self]
theorem keepB_congr {e e' : List D} {gl : Nat → Option (List D)} {hs : List HK} {m : M} (h : ∀ s, s ∈ hs.flatMap HK.sl → e.getD s .junk = e'.getD s .junk) (hx : ∀ y, y ∈ m.xs → rd gl e y = rd gl e' y) : keepB gl base e hs m = keepB gl base e' hs m := by
  unfold keepB
  rw [(kids_congr (base := base) hs h).1]
  cases m with
  | ld ag n x => simp only [hx x (by simp [M.xs])]
  | _ => rfl
theorem dcore_congr {x : DG} {e e' : List D} {h : Heap} (k : ∀ s, s ∈ x.rs → e.getD s .junk = e'.getD s .junk) : dcore c R base x e h = dcore c R base x e' h := by
  have hx : ∀ y, y ∈ x.g.xs → ∀ s, s ∈ y.sl → e.getD s .junk = e'.getD s .junk := fun y hy s hs => k s (by
    simp only [DG.rs, List.mem_append, List.mem_flatMap]; exact .inl (.inl (.inr ⟨y, hy, hs⟩)))
  have hh : hids base e x.hs = hids base e' x.hs := hids_congr _ fun s hs => k s (by simp only [DG.rs, List.mem_append]; exact .inl (.inr hs))
  have ht : ∀ ts, x.ts = some ts → hids base e ts = hids base e' ts := fun ts hts => hids_congr _ fun s hs => k s (by simp only [DG.rs, List.mem_append, hts]; exact .inr hs)
  have hw : x.g.want e = x.g.want e' := by
    unfold G.want
    split
    · rfl
    · rename_i j w hg
      rw [k j (by simp only [DG.rs, hg]; simp)]
  have hqt : x.g.quiet c e = x.g.quiet c e' := by
    unfold G.quiet
    split
    · rename_i y args hm
      rw [rd_congr (hx y (by simp only [G.xs, hm]; exact List.mem_cons_self ..))]
    · rfl
  unfold dcore
  rw [hw, hh, hqt]
  split
  · rfl
  · split
    · rename_i m hm _
      rw [(M.ev_congr m fun y hy => hx y (by simp only [G.xs, hm]; exact hy)).1]
    · rename_i m ts hm hts
      have hc : ∀ h, m.ev c.pg.gl (base + x.g.d.getD 0) e h = m.ev c.pg.gl (base + x.g.d.getD 0) e' h ∧ m.tch c.pg.gl (base + x.g.d.getD 0) e = m.tch c.pg.gl (base + x.g.d.getD 0) e' := fun h =>
        M.ev_congr m fun y hy => hx y (by simp only [G.xs, hm]; exact hy)
      have hkk := kids_congr (base := base) (e := e) (e' := e') x.hs fun s hs => k s (by simp only [DG.rs, List.mem_append]; exact .inl (.inr hs))
      have hkb : keepB c.pg.gl base e x.hs m = keepB c.pg.gl base e' x.hs m := keepB_congr (fun s hs => k s (by simp only [DG.rs, List.mem_append]; exact .inl (.inr hs))) fun y hy => rd_congr (hx y (by simp only [G.xs, hm]; exact hy))
      rw [(hc _).1, (hc h).1, (hc h).2, ht ts hts, hkb, hkk.2]
    · rename_i f args ts hm hts
      have : args.map (rd c.pg.gl e) = args.map (rd c.pg.gl e') := List.map_congr_left fun y hy => rd_congr (hx y (by simp only [G.xs, hm]; exact hy))
      have hkk := kids_congr (base := base) (e := e) (e' := e') x.hs fun s hs => k s (by simp only [DG.rs, List.mem_append]; exact .inl (.inr hs))
      have hmk : ∀ pn ks, mayKill base e ts x.hs pn ks = mayKill base e' ts x.hs pn ks := fun pn ks => by unfold mayKill; rw [ht ts hts, hh, hkk.2]
      simp only [this, hmk]
    · rename_i f args hm hts
      have : args.map (rd c.pg.gl e) = args.map (rd c.pg.gl e') := List.map_congr_left fun y hy => rd_congr (hx y (by simp only [G.xs, hm]; exact hy))
      have hkk := kids_congr (base := base) (e := e) (e' := e') x.hs fun s hs => k s (by simp only [DG.rs, List.mem_append]; exact .inl (.inr hs))
      simp only [this, hkk.2]
    · rename_i gd y args ts hm hts
      have h1 : rd c.pg.gl e y = rd c.pg.gl e' y := rd_congr (hx y (by simp only [G.xs, hm]; exact List.mem_cons_self ..))
      have : args.map (rd c.pg.gl e) = args.map (rd c.pg.gl e') := List.map_congr_left fun z hz => rd_congr (hx z (by simp only [G.xs, hm]; exact List.mem_cons_of_mem _ hz))
      rw [h1, this]
    · rename_i gd y args hm hts
      have h1 : rd c.pg.gl e y = rd c.pg.gl e' y := rd_congr (hx y (by simp only [G.xs, hm]; exact List.mem_cons_self ..))
      have : args.map (rd c.pg.gl e) = args.map (rd c.pg.gl e') := List.map_congr_left fun z hz => rd_congr (hx z (by simp only [G.xs, hm]; exact List.mem_cons_of_mem _ hz))
      have hkk := kids_congr (base := base) (e := e) (e' := e') x.hs fun s hs => k s (by simp only [DG.rs, List.mem_append]; exact .inl (.inr hs))
      simp only [h1, this, hkk.2]
    · rfl
  · rfl

theorem dcore_light {x : DG} (hl : x.light = true) {e : List D} {h h' : Heap} {d : D} (hq : dcore c R base x e h = some (d, h')) : h' = h ∧ ∀ h2, dcore c R base x e h2 = some (d, h2) := by
  unfold DG.light at hl
  split at hl <;> try (cases hl; done)
  rename_i m hm
  obtain ⟨k1, k2⟩ := M.heapless (gl := c.pg.gl) (t := base + x.g.d.getD 0) (e := e) m (by simpa using hl)
  unfold dcore at hq
  split at hq
  · rename_i hw
    split at hq <;> try (cases hq; done)
    rename_i hqt
    cases hq
    exact ⟨rfl, fun h2 => by simp only [dcore, hw, if_pos hqt]⟩
  · rename_i hw
    rw [hm] at hq
    cases ht : x.ts with
    | none =>
      rw [ht] at hq
      simp only at hq
      refine ⟨k1 _ _ hq, fun h2 => ?_⟩
      simp only [dcore, hw, hm, ht]
      rw [k2 h h2, hq]; rfl
    | some ts =>
      rw [ht] at hq
      simp only at hq
      split at hq <;> try (cases hq; done)
      rename_i hc
      refine ⟨k1 _ _ hq, fun h2 => ?_⟩
      simp only [dcore, hw, hm, ht]
      rw [k2 h h2, k2 h (h2.kill _), hq]
      rw [k2 h (h.kill _), hq] at hc
      rw [if_pos (by simpa using hc)]; rfl
  · cases hq

theorem each_of {f g : D → Option (D × List Nat)} (hfg : ∀ d r, f d = some r → g d = some r) : ∀ (l : List D) (r : List D × List Nat), each f l = some r → each g l = some r
  | [], r, h => h
  | d :: l, r, h => by
    simp only [each] at h ⊢
    split at h <;> cases h
    rename_i d' a l' b h1 h2
    rw [hfg _ _ h1, each_of hfg l _ h2]
theorem eachE_of {f g : D → Option (D × List Nat)} (hfg : ∀ d r, f d = some r → g d = some r) : ∀ (l : List (D × D)) (r : List (D × D) × List Nat), eachE f l = some r → eachE g l = some r
  | [], r, h => h
  | (k, v) :: l, r, h => by
    simp only [eachE] at h ⊢
    split at h <;> cases h
    rename_i k' a v' b l' c h1 h2 h3
    rw [hfg _ _ h1, hfg _ _ h2, eachE_of hfg l _ h3]

theorem frz_of {h0 h2 : Heap} {U : List Nat} (hh : h2.kill U = h0.kill U) : ∀ (n : Nat) (d : D) (r : D × List Nat), frz (h0.kill U) n d = some r → frz h2 n d = some r := by
  intro n
  induction n with
  | zero => intro d r h; cases h
  | succ n ih =>
    intro d r h
    have li := each_of ih
    have liE := eachE_of ih
    unfold frz at h ⊢
    split
    · rename_i hc
      rw [if_pos hc] at h; exact h
    · rename_i hc
      rw [if_neg hc] at h
      split at h <;> try (cases h; done)
      · exact h
      · exact h
      · simp only [Option.map_eq_some_iff] at h ⊢; obtain ⟨p, h1, h2⟩ := h; exact ⟨p, li _ _ h1, h2⟩
      · simp only [Option.map_eq_some_iff] at h ⊢; obtain ⟨p, h1, h2⟩ := h; exact ⟨p, li _ _ h1, h2⟩
      · simp only [Option.map_eq_some_iff] at h ⊢; obtain ⟨p, h1, h2⟩ := h; exact ⟨p, li _ _ h1, h2⟩
      · split at h <;> cases h
        rename_i h1 h2
        simp only [li _ _ h1, li _ _ h2]
      · simp only [Option.map_eq_some_iff] at h ⊢; obtain ⟨p, h1, h2⟩ := h; exact ⟨p, ih _ _ h1, h2⟩
      · exact h
      · simp only [Option.map_eq_some_iff] at h ⊢; obtain ⟨p, h1, h2⟩ := h; exact ⟨p, li _ _ h1, h2⟩
      · simp only [Option.map_eq_some_iff] at h ⊢; obtain ⟨p, h1, h2⟩ := h; exact ⟨p, liE _ _ h1, h2⟩
      · split at h
        · rename_i hg
          simp only [(get_of hh hg).2]
          simp only [Option.map_eq_some_iff] at h ⊢; obtain ⟨p, h1, h2⟩ := h; exact ⟨p, li _ _ h1, h2⟩
        · rename_i hn
          simp only [Option.map_eq_some_iff] at h
          obtain ⟨cs, h1, rfl⟩ := h
          obtain ⟨i1, i2⟩ := other_of hh hn h1
          split
          · rename_i ty c hg; exact absurd hg (i1 ty c)
          · rw [i2]; rfl
      · split at h
        · rename_i hg
          split at h <;> try (cases h; done)
          rename_i hcc
          simp only [(get_of hh hg).2, if_pos hcc]
          simp only [Option.map_eq_some_iff] at h ⊢; obtain ⟨p, h1, h2⟩ := h; exact ⟨p, li _ _ h1, h2⟩
        · rename_i hn
          split at h <;> try (cases h; done)
          rename_i cs h1
          obtain ⟨i1, i2⟩ := other_of hh hn h1
          split
          · rename_i ty c hg; exact absurd hg (i1 ty c)
          · rw [i2]; exact h
      · split at h <;> try (cases h; done)
        rename_i hg
        simp only [(get_of hh hg).2]
        simp only [Option.map_eq_some_iff] at h ⊢; obtain ⟨p, h1, h2⟩ := h; exact ⟨p, liE _ _ h1, h2⟩

theorem dcore_local {x : DG} {ts : List HK} (ht : x.ts = some ts) (hl : x.local = true) {e : List D} {h h' : Heap} {d : D} (hq : dcore c R base x e h = some (d, h')) :
    ∃ ups : Ups, (∀ p, p ∈ ups → p.1 ∈ hids base e ts ∧ p.1 ∉ hids base e x.hs ∧ p.1 ∉ avids base e x.hs) ∧ h' = h.sets ups ∧ ∀ h2 : Heap, h2.kill (hids base e x.hs) = h.kill (hids base e x.hs) → dcore c R base x e h2 = some (d, h2.sets ups) := by
  unfold dcore at hq
  split at hq
  · rename_i hw
    split at hq <;> try (cases hq; done)
    rename_i hqt
    cases hq
    exact ⟨[], fun p hp => (by cases hp), rfl, fun h2 _ => by simp only [dcore, hw, if_pos hqt]; rfl⟩
  · rename_i hw
    rw [ht] at hq
    unfold DG.local at hl
    split at hq <;> try (cases hq; done)
    · rename_i hx; cases hx
    · rename_i m ts' hm hts
      cases hts
      rw [hm] at hl
      simp only [Bool.or_eq_true, decide_eq_true_eq] at hl
      split at hq <;> try (cases hq; done)
      rename_i hc
      have hc' := hc
      simp only [Bool.and_eq_true, Bool.or_eq_true, List.all_eq_true, List.contains_eq_mem, decide_eq_true_eq, Bool.not_eq_true', decide_eq_false_iff_not] at hc'
      obtain ⟨⟨⟨hc1, hc2⟩, _⟩, hc4⟩ := hc'
      rcases hl with hk | hk
      · obtain ⟨k1, k2⟩ := M.heapless (gl := c.pg.gl) (t := base + x.g.d.getD 0) (e := e) m hk
        refine ⟨[], fun p hp => (by cases hp), k1 _ _ hq, fun h2 hh => ?_⟩
        simp only [dcore, hw, hm, ht, hh, if_pos hc]
        rw [k2 h h2, hq]; rfl
      · have hid : ∃ d1 g, m.ev c.pg.gl (base + x.g.d.getD 0) e (h.kill (hids base e x.hs)) = some (d1, g) := by
          rcases hc1 with hc1 | hc1
          · rw [List.isEmpty_iff.1 hc1]
            exact ⟨_, _, hq⟩
          · obtain ⟨⟨d1, g⟩, hg⟩ := Option.isSome_iff_exists.1 hc1
            exact ⟨d1, g, hg⟩
        obtain ⟨d1, g, hg⟩ := hid
        obtain ⟨ups, i1, i2⟩ := M.loc m hk hg
        have : m.ev c.pg.gl (base + x.g.d.getD 0) e h = some (d1, h.sets ups) := i2 h rfl
        rw [hq] at this
        simp only [Option.some.injEq, Prod.mk.injEq] at this
        obtain ⟨rfl, rfl⟩ := this
        refine ⟨ups, fun p hp => ⟨hc2 _ (i1 p hp).1, (i1 p hp).2, hc4 _ (i1 p hp).1⟩, rfl, fun h2 hh => ?_⟩
        simp only [dcore, hw, hm, ht, hh, if_pos hc]
        exact i2 h2 hh
    · rename_i f args ts' hm hts
      split at hq <;> try (cases hq; done)
      rename_i hsh
      split at hq <;> try (cases hq; done)
      rename_i as ks has
      split at hq <;> try (cases hq; done)
      rename_i d1 hp
      split at hq <;> try (cases hq; done)
      rename_i hc
      cases hq
      cases hts
      by_cases hfl : (ks.isEmpty || d1.d.flat) = true
      · refine ⟨[], fun p hp => (by cases hp), by unfold thaw; rw [if_pos hfl]; rfl, fun h2 hh => ?_⟩
        simp only [dcore, hw, hm, ht, hh, if_neg hsh, has, hp, if_pos hc]
        unfold thaw; rw [if_pos hfl]; rfl
      · have hmk : mayKill base e ts x.hs x.pn ks = true := by
          simp only [Bool.and_eq_true, Bool.or_eq_true] at hc hfl
          rcases hc.1 with h1 | h1
          · exact absurd h1 hfl
          · exact h1
        refine ⟨ks.map fun k => (k, none), fun p hp => ?_, by unfold thaw; rw [if_neg hfl, Heap.kill_as], fun h2 hh => ?_⟩
        · obtain ⟨k, hk, rfl⟩ := List.mem_map.1 hp
          unfold mayKill at hmk
          simp only [Bool.and_eq_true, List.all_eq_true, List.contains_eq_mem, decide_eq_true_eq, Bool.not_eq_true', decide_eq_false_iff_not] at hmk
          exact ⟨hmk.1.1 k hk, (hmk.1.2 k hk).1, (hmk.1.2 k hk).2⟩
        · simp only [dcore, hw, hm, ht, hh, if_neg hsh, has, hp, if_pos hc]
          unfold thaw; rw [if_neg hfl, Heap.kill_as]
    · rename_i hx; cases hx
    · rename_i gd y args ts' hm hts
      split at hq <;> try (cases hq; done)
      rename_i f fs cs hy
      split at hq <;> try (cases hq; done)
      rename_i hsh
      split at hq <;> try (cases hq; done)
      rename_i as ks has
      split at hq <;> try (cases hq; done)
      rename_i d1 hp
      split at hq <;> try (cases hq; done)
      rename_i hc
      cases hq
      refine ⟨[], fun p hp => (by cases hp), rfl, fun h2 hh => ?_⟩
      simp only [dcore, hw, hm, ht, hh, hy, if_neg hsh, has, hp, if_pos hc]
      rfl
    · rename_i hx; cases hx
  · cases hq

theorem kept_heap {r t : DG} (hk : kept r t = true) {e : List D} {h h' : Heap} {d : D} (hq : dcore c R base r e h = some (d, h')) : h' = h ∧ ∀ h2 : Heap, (∀ k, k ∈ kids base e r.hs → h2.rdc k = h.rdc k) → dcore c R base r e h2 = some (d, h2) := by
  unfold kept at hk
  simp only [Bool.and_eq_true] at hk
  obtain ⟨⟨⟨g1, g2⟩, g3⟩, _⟩ := hk
  split at g1 <;> try (cases g1; done)
  rename_i ag n x hm hts
  have hid0 : hids base e r.hs = [] := by
    unfold hids
    rw [List.filterMap_eq_nil_iff]
    intro k hk
    have := List.all_eq_true.1 g3 k hk
    cases k with
    | keep s => rfl
    | fr s => cases this
    | «at» s => cases this
    | av s => cases this
  unfold dcore at hq
  split at hq
  · rename_i hw
    split at hq <;> try (cases hq; done)
    rename_i hqt
    cases hq
    exact ⟨rfl, fun h2 _ => by simp only [dcore, hw, if_pos hqt]⟩
  · rename_i hw
    rw [hm, hts] at hq
    simp only at hq
    split at hq <;> try (cases hq; done)
    rename_i hc
    have hc' := hc
    simp only [Bool.and_eq_true] at hc'
    obtain ⟨⟨⟨hc1, hc2⟩, hc3⟩, hc4⟩ := hc'
    unfold keepB at hc3
    rw [g2] at hc3
    simp only [Bool.not_true, Bool.false_or] at hc3
    have hkill : ∀ h : Heap, h.kill [] = h := fun _ => rfl
    have fin : ∀ h2 : Heap, (M.ld ag n x).ev c.pg.gl (base + r.g.d.getD 0) e h2 = some (d, h2) → dcore c R base r e h2 = some (d, h2) := fun h2 he => by
      simp only [dcore, hw, hm, hts]
      rw [if_pos ?_]
      · exact he
      · simp only [Bool.and_eq_true]
        refine ⟨⟨⟨?_, hc2⟩, ?_⟩, hc4⟩
        · rw [hid0, hkill, he]; simp
        · unfold keepB; rw [g2]; simpa using hc3
    simp only [M.ev] at hq
    split at hq <;> try (cases hq; done)
    · rename_i k o hx
      split at hq <;> try (cases hq; done)
      rename_i cs hg
      split at hq <;> try (cases hq; done)
      rename_i hle
      cases hq
      refine ⟨rfl, fun h2 hh => fin h2 ?_⟩
      rw [hx] at hc3
      have hkm : k ∈ kids base e r.hs := by simpa using hc3
      have hg2 : h2.rdc k = some cs := by rw [hh k hkm]; exact hg
      simp only [M.ev, hx, hg2, if_pos hle]
    · rename_i cs hx
      split at hq <;> try (cases hq; done)
      rename_i hle
      cases hq
      exact ⟨rfl, fun h2 _ => fin h2 (by simp only [M.ev, hx, if_pos hle])⟩
  · cases hq
theorem kept_touch {r t : DG} (hk : kept r t = true) {e : List D} {h h' : Heap} {d : D} (hq : dcore c R base t e h = some (d, h')) :
    ∀ k, k ∈ kids base e r.hs → h.rdc k = h'.rdc k := by
  unfold kept at hk
  simp only [Bool.and_eq_true, Bool.or_eq_true] at hk
  obtain ⟨⟨⟨g1, g2⟩, g3⟩, g4⟩ := hk
  have hav : ∀ k, k ∈ kids base e r.hs → k ∈ avids base e t.hs := fun k hk => by
    unfold kids at hk
    obtain ⟨q, hq1, hq2⟩ := List.mem_filterMap.1 hk
    have := List.all_eq_true.1 g3 q hq1
    cases q with
    | keep s =>
      unfold avids
      exact List.mem_filterMap.2 ⟨.av s, by simpa using this, hq2⟩
    | fr s => cases this
    | «at» s => cases this
    | av s => cases this
  intro k hk
  rcases g4 with ⟨g4, g5⟩ | g4
  · obtain ⟨ts, hts⟩ := Option.isSome_iff_exists.1 g4
    obtain ⟨ups, i1, rfl, _⟩ := dcore_local hts g5 hq
    unfold Heap.rdc
    rw [Heap.get_sets_out ups h fun p hp he => (i1 p hp).2.2 (by rw [he]; exact hav k hk), Heap.fzd_sets_out ups h fun p hp he => (i1 p hp).2.2 (by rw [he]; exact hav k hk)]
  · have fin : (x : Option (Out × Heap)) → (match x with | some (.ret d, h') => if (t.hs.isEmpty || sameAt (avids base e t.hs) h h') = true then some (d, h') else none | _ => none) = some (d, h') → h.rdc k = h'.rdc k := fun x hq => by
      split at hq <;> try (cases hq; done)
      split at hq <;> try (cases hq; done)
      rename_i hc
      cases hq
      have hk' := hav k hk
      simp only [Bool.or_eq_true] at hc
      rcases hc with hc | hc
      · rw [List.isEmpty_iff.1 hc] at hk'
        simp [avids] at hk'
      · exact (sameAt_iff.1 hc k hk').symm
    unfold DG.full at g4
    split at g4 <;> try (cases g4; done)
    · rename_i f args hm hts
      unfold dcore at hq
      split at hq
      · split at hq <;> cases hq; rfl
      · rw [hm, hts] at hq
        simp only at hq
        split at hq <;> try (cases hq; done)
        exact fin _ hq
      · cases hq
    · rename_i gd y args hm hts
      unfold dcore at hq
      split at hq
      · split at hq <;> cases hq; rfl
      · rw [hm, hts] at hq
        simp only at hq
        split at hq <;> try (cases hq; done)
        split at hq <;> try (cases hq; done)
        exact fin _ hq
      · cases hq
theorem dswap {i j : DG} (hf : i.free j = true) {s s1 s2 : St} (hj : dstep c R base j s = some s1) (hi : dstep c R base i s1 = some s2) : ∃ s1', dstep c R base i s = some s1' ∧ dstep c R base j s1' = some s2 := by
  unfold dstep at hj hi ⊢
  simp only [Option.map_eq_some_iff] at hj hi
  obtain ⟨⟨dj, h1⟩, hj, rfl⟩ := hj
  obtain ⟨⟨di, h2⟩, hi, rfl⟩ := hi
  simp only at hi
  simp only [DG.free, Bool.and_eq_true, Bool.or_eq_true] at hf
  obtain ⟨⟨⟨f1, f2⟩, f3⟩, f4⟩ := hf
  have ci : ∀ h, dcore c R base i (put s.e j.g.d dj) h = dcore c R base i s.e h := fun h => dcore_congr fun t ht => put_getD (notIn_spec f2 ht)
  have cj : ∀ h, dcore c R base j (put s.e i.g.d di) h = dcore c R base j s.e h := fun h => dcore_congr fun t ht => put_getD (notIn_spec f1 ht)
  rw [ci] at hi
  have hcomm : put (put s.e i.g.d di) j.g.d dj = put (put s.e j.g.d dj) i.g.d di := put_comm f3
  rcases f4 with (((f4 | f4) | f4) | f4) | f4
  · obtain ⟨rfl, k⟩ := dcore_light f4 hi
    refine ⟨_, by rw [k s.h]; rfl, ?_⟩
    simp only [cj, hj, Option.map_some, hcomm]
  · obtain ⟨rfl, k⟩ := dcore_light f4 hj
    refine ⟨_, by rw [hi]; rfl, ?_⟩
    simp only [cj, k, Option.map_some, hcomm]
  · unfold hid at f4
    split at f4 <;> try (cases f4; done)
    rename_i a b ha hb
    simp only [Bool.and_eq_true, List.all_eq_true, List.contains_eq_mem, decide_eq_true_eq] at f4
    obtain ⟨⟨⟨g1, g2⟩, g3⟩, g4⟩ := f4
    have sub : ∀ {l m : List HK}, (∀ x, x ∈ l → x ∈ m) → ∀ n, n ∈ hids base s.e l → n ∈ hids base s.e m := fun {l m} hlm n hn => by
      simp only [hids, List.mem_filterMap] at hn ⊢
      obtain ⟨x, hx, hxn⟩ := hn
      exact ⟨x, hlm x hx, hxn⟩
    obtain ⟨uj, j1, rfl, j3⟩ := dcore_local hb g4 hj
    obtain ⟨ui, i1, rfl, i3⟩ := dcore_local ha g3 hi
    have hkill : s.h.kill (hids base s.e i.hs) = (s.h.sets uj).kill (hids base s.e i.hs) := (Heap.kill_sets _ uj s.h fun p hp => sub g2 _ (j1 p hp).1).symm
    refine ⟨_, by rw [i3 s.h hkill]; rfl, ?_⟩
    have hkill2 : (s.h.sets ui).kill (hids base s.e j.hs) = s.h.kill (hids base s.e j.hs) := Heap.kill_sets _ ui s.h fun p hp => sub g1 _ (i1 p hp).1
    simp only [cj, j3 _ hkill2, Option.map_some, hcomm]
    rw [Heap.sets_comm ui uj s.h fun p q hp hq he => (i1 p hp).2.1 (by rw [he]; exact sub g2 _ (j1 q hq).1)]
  · -- the later one reads, the earlier one must not touch it
    obtain ⟨k1, k2⟩ := kept_heap f4 hi
    subst k1
    have k3 := kept_touch f4 hj
    refine ⟨_, by rw [k2 s.h fun k hk => (k3 k hk)]; rfl, ?_⟩
    simp only [cj, hj, Option.map_some, hcomm]
  · obtain ⟨k1, k2⟩ := kept_heap f4 hj
    subst k1
    have k3 := kept_touch f4 hi
    refine ⟨_, by rw [hi]; rfl, ?_⟩
    simp only [cj, k2 _ fun k hk => (k3 k hk).symm, Option.map_some, hcomm]

theorem runDr_front {i : DG} {T2 : List DG} {r : St} : ∀ (T1 : List DG) (s : St), (∀ j, j ∈ T1 → i.free j = true) → runDr c R base (T1 ++ i :: T2) s = some r → ∃ s1, dstep c R base i s = some s1 ∧ runDr c R base (T1 ++ T2) s1 = some r
  | [], s, _, h => by
    simp only [List.nil_append, runDr] at h
    split at h <;> try (cases h; done)
    rename_i s1 h1
    exact ⟨s1, h1, h⟩
  | j :: T1, s, hf, h => by
    simp only [List.cons_append, runDr] at h
    split at h <;> try (cases h; done)
    rename_i s1 h1
    obtain ⟨s2, h2, h3⟩ := runDr_front T1 s1 (fun k hk => hf k (by simp [hk])) h
    obtain ⟨s1', h4, h5⟩ := dswap (hf j (by simp)) h1 h2
    exact ⟨s1', h4, by simp only [List.cons_append, runDr, h5]; exact h3⟩
end
end Go.Em
