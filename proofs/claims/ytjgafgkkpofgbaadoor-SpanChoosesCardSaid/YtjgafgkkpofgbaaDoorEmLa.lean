/- A run of an operation does what its small operation says: conversions of strings, complements, elements of arrays. -/
import Derived.Test.YtjgafgkkpofgbaaDoorEmL
import Derived.Lib.ConvBytes
import Derived.Laws.IdiomStrings
import Derived.Laws.AppendOwn
namespace Go.Em
open Go Go.RowKit

section
variable {P : Program} {N : Nat} {o : Oper}

theorem sound_cpl {t : TypeId} {x : Operand} {x' : X} (hop : o.op = .unOp .xor t x) (hx : X.of N x = some x') : MSound P N o (.cpl x') := by
  refine ⟨(by rw [hop]; rfl), fun C K h h' w e a t d hP s f hq => ?_⟩
  simp only [M.ev] at hq
  split at hq <;> try (cases hq; done)
  rename_i k n hb
  have h1 := f.rd s hx
  rw [hb] at h1
  simp only [Option.map_eq_some_iff, Prod.mk.injEq] at hq
  obtain ⟨r, hr, rfl, rfl⟩ := hq
  refine still s (v := r) ?_ (.val _ (one_of_ans hr))
  have hp : Op.unary .xor (.int k n) = .pure r := by
    unfold ans at hr
    split at hr <;> try (cases hr; done)
    rename_i v hv
    split at hr <;> cases hr
    exact hv
  simp [execOp, hop, h1.val_eq, hp, Sem.run]

theorem sound_ixa {ty et : TypeId} {m : Nat} {ag : Bool} {sz : Nat} {x i : Operand} {x' i' : X} (hop : o.op = .index ty x i) (hx : X.of N x = some x') (hi : X.of N i = some i') (hu : P.underlying ty = some (.array m et)) (hs : shapeOf P et = some (ag, sz)) : MSound P N o (.ixa ag sz m x' i') := by
  refine ⟨(by rw [hop]; rfl), fun C K h h' w e a t d hP s f hq => ?_⟩
  have hden := f.rd s hx
  have hdi := f.rd s hi
  simp only [M.ev] at hq
  split at hq <;> try cases hq
  rename_i cs kd n hr hri
  split at hq <;> try cases hq
  rename_i hc
  obtain ⟨h0, h1, hle⟩ := hc
  rw [hri] at hdi
  have hiv := hdi.val_eq
  obtain ⟨u0, hu0⟩ : ∃ v, a.eval x = v := ⟨_, rfl⟩
  rw [hr, hu0] at hden
  cases hden with
  | agg vs _ hdl =>
    have hlen := hdl.length
    cases ag with
    | true =>
      refine still s (v := .agg ((vs.drop (n.toNat * sz)).take sz).toArray) ?_ (.agg _ _ ((hdl.drop _).take _))
      simp [execOp, hop, hu0, hiv, Instr.index, asIntOf, run_underlying hu, h0, h1, part, run_isAgg hs, run_size hs]
    | false =>
      have hm := shape_one hs
      subst hm
      obtain ⟨v, hv, hdv⟩ := getD_one hdl (show n.toNat * 1 < cs.length by omega)
      refine still s (v := v) ?_ (by simpa using hdv)
      have hv' : vs[n.toNat]? = some v := by simpa using hv
      simp [execOp, hop, hu0, hiv, Instr.index, asIntOf, run_underlying hu, h0, h1, part, run_isAgg hs, run_size hs, hv']

/-- New memory that does not change any more. -/
theorem Sim.news {C : Cx} {K : Ctx} {h : Heap} {w w' : World} (s : Sim C K h w) (us : List Value) (hw : Below C.w0.heap.size w w') (hb : ∀ b, b < w.heap.size → w'.heap[b]? = w.heap[b]?) (hsz : w.heap.size < w'.heap.size)
    (hc : ∀ i u, us[i]? = some u → w'.cell? ⟨w.heap.size, i, none⟩ = some u) : ∃ K', K.le K' ∧ Sim C K' h w' ∧ ∀ i u, us[i]? = some u → K'.cell w.heap.size i = some u := by
  let K' : Ctx := { K with cell := fun b o => if b = w.heap.size then us[o]? else K.cell b o }
  have old : ∀ b o v, K.cell b o = some v → K'.cell b o = some v := fun b o v x => by
    have := (s.cells _ _ _ x).1
    show (if b = w.heap.size then us[o]? else K.cell b o) = some v
    rw [if_neg (by omega)]; exact x
  have hle : K.le K' := ⟨old, fun _ _ x => x, fun _ _ x => x⟩
  have hcell : ∀ b o v, K'.cell b o = some v → (b = w.heap.size ∧ us[o]? = some v) ∨ (b < w.heap.size ∧ K.cell b o = some v) := fun b o v x => by
    have x' : (if b = w.heap.size then us[o]? else K.cell b o) = some v := x
    by_cases hbb : b = w.heap.size
    · rw [if_pos hbb] at x'; exact .inl ⟨hbb, x'⟩
    · rw [if_neg hbb] at x'; exact .inr ⟨(s.cells _ _ _ x').1, x'⟩
  have same : ∀ b o, b < w.heap.size → w'.cell? ⟨b, o, none⟩ = w.cell? ⟨b, o, none⟩ := fun b o hlt => by
    simp only [World.cell?, hb b hlt]
  have hsize : C.w0.heap.size ≤ w.heap.size := s.below.size
  refine ⟨K', hle, ⟨⟨s.ext.le.trans hle.lep, fun b o v x hlt => ?_, fun b o x hlt => s.ext.obj b o x hlt⟩, fun g cs x => (s.glob g cs x).mono hle, s.below.trans hw, fun b o v x => ?_, fun b o x => ?_, fun k B x => ?_, s.inj, s.fresh⟩, fun i u hu => ?_⟩
  · rcases hcell b o v x with ⟨y, _⟩ | ⟨_, y⟩
    · omega
    · exact s.ext.cell b o v y hlt
  · rcases hcell b o v x with ⟨rfl, y⟩ | ⟨y, z⟩
    · exact ⟨hsz, hc o v y⟩
    · exact ⟨by omega, by rw [same b o y]; exact (s.cells _ _ _ z).2⟩
  · obtain ⟨y, z⟩ := s.objs b o x
    have : b < w.heap.size := (Array.getElem?_eq_some_iff.1 y).1
    exact ⟨by rw [hb b this]; exact y, z⟩
  · obtain ⟨b, n, O, i1, i2, i3, i4, i5, i6⟩ := s.live k B x
    have hlt : b < w.heap.size := (Array.getElem?_eq_some_iff.1 i3).1
    refine ⟨b, n, O, i1, i2, by rw [hb b hlt]; exact i3, i4.mono hle, fun o => ?_, i6⟩
    show (if b = w.heap.size then us[o]? else K.cell b o) = none
    rw [if_neg (by omega)]; exact i5 o
  · show (if w.heap.size = w.heap.size then us[i]? else _) = some u
    rw [if_pos rfl]; exact hu

theorem sound_s2b {u t et : TypeId} {tu : TypeDesc} {x : Operand} {x' : X} (hop : o.op = .convert u t x) (hx : X.of N x = some x') (hs : P.underlying u = some tu) (ht : P.underlying t = some (.slice et)) (he : P.underlying et = some (.int .u8)) : MSound P N o (.s2b et x') := by
  refine ⟨(by rw [hop]; rfl), fun C K h h' w e a t0 d hP s f hq => ?_⟩
  simp only [M.ev] at hq
  split at hq <;> try (cases hq; done)
  rename_i st hb
  split at hq <;> try (cases hq; done)
  rename_i hmax
  cases hq
  have h1 := f.rd s hx
  rw [hb] at h1
  have hrun := Lib.run_convert_string_bytes (P := P) w u t et st hs ht he
  let us : List Value := st.data.toList.map fun b => .int .u8 b.toNat
  have hul : us.length = st.size := by simp [us]
  have hsize := Lib.bytesWorld_size w et st
  obtain ⟨K', hle, hs', hk⟩ := s.news (w' := Lib.bytesWorld w et st) us ⟨by simp [Lib.bytesWorld, World.freeze, World.alloc, World.drew, -World.alloc_eq, -World.drew_eq], by simp [Lib.bytesWorld, World.freeze, World.alloc, World.drew, -World.alloc_eq, -World.drew_eq], by simp [Lib.bytesWorld, World.freeze, World.alloc, World.drew, -World.alloc_eq, -World.drew_eq], by omega, fun j hj => Lib.bytesWorld_at_old w et st j (Nat.lt_of_lt_of_le hj s.below.size)⟩
    (fun b hlt => Lib.bytesWorld_at_old w et st b hlt) (by omega) (fun i u hu => by
      have hlt : i < st.size := by rw [← hul]; exact (List.getElem?_eq_some_iff.1 hu).1
      rw [Lib.bytesWorld_cell w et st i hlt, ← hu]
      have hlt' : i < st.data.toList.length := by simpa using hlt
      simp only [us, List.getElem?_map, List.getElem?_eq_getElem hlt', Option.map_some, List.getD_eq_getElem?_getD, Option.getD_some])
  have hbl : (bytesD st).length = st.size := by simp [bytesD]
  have hcells : ∀ l : List D, (∀ d, d ∈ l → d.cells = [d]) → l.flatMap D.cells = l := fun l hl => by
    induction l with
    | nil => rfl
    | cons d l ih => rw [List.flatMap_cons, hl d (by simp), ih fun d hd => hl d (by simp [hd])]; rfl
  have hone : ∀ d, d ∈ bytesD st → d.cells = [d] := fun d hd => by
    obtain ⟨b, _, rfl⟩ := List.mem_map.1 hd; rfl
  refine ⟨.slice (some ⟨w.heap.size, 0, none⟩) st.size (grownCap w st.size 0 et), _, K', .value _ _ (by simp [execOp, hop, h1.val_eq, hrun]), hle, hs', ?_⟩
  have := Den.sl (S := K') w.heap.size 0 (grownCap w st.size 0 et) false 1 (bytesD st) us (fun x => by cases x) (by rw [hbl]; exact grownCap_ge _ _ _ _) (grownCap_le_maxLen _ _ _ _ hmax) (fun e he => by rw [hone e he]; rfl) (fun i v hi => by rw [Nat.zero_add]; exact hk i v hi) (List.all_eq_true.2 fun v hv => by obtain ⟨b, _, rfl⟩ := List.mem_map.1 hv; rfl)
    (by rw [hcells _ hone]
        have : bytesD st = us.map .val := by simp [bytesD, us]
        rw [this]
        exact vals_den (List.all_eq_true.2 fun u hu => by obtain ⟨_, _, rfl⟩ := List.mem_map.1 hu; rfl))
  rwa [hbl] at this

theorem unbytes_spec {K : Ctx} : ∀ (us : List Value) (ds : List D) (l : List Int), DenL K us ds → unbytes ds = some l → us = l.map (.int .u8)
  | _, _, l, .nil, h => by simp only [unbytes, Option.some.injEq] at h; subst h; rfl
  | _, _, l, .cons v d us ds h1 h2, h => by
    unfold unbytes at h
    split at h <;> try (cases h; done)
    · rename_i hh; cases hh
    · rename_i n l' hh
      cases hh
      simp only [Option.map_eq_some_iff] at h
      obtain ⟨r, hr, rfl⟩ := h
      rw [unbytes_spec us ds r h2 hr, h1.val_eq]
      rfl

theorem sound_b2s {u t et : TypeId} {x : Operand} {x' : X} (hop : o.op = .convert u t x) (hx : X.of N x = some x') (hu : P.underlying u = some (.slice et)) (he : P.underlying et = some (.int .u8)) (ht : P.underlying t = some .string) : MSound P N o (.b2s x') := by
  refine ⟨(by rw [hop]; rfl), fun C K h h' w e a t0 d hP s f hq => ?_⟩
  have hden := (f.rd s hx).wk
  simp only [M.ev] at hq
  split at hq <;> try (cases hq; done)
  rename_i hne
  split at hq <;> try (cases hq; done)
  rename_i m ds hsrc
  simp only [Option.map_eq_some_iff, Prod.mk.injEq] at hq
  obtain ⟨l, hl, rfl, rfl⟩ := hq
  obtain ⟨v, hv⟩ : ∃ v, a.eval x = v := ⟨_, rfl⟩
  rw [hv] at hden
  obtain ⟨news, hS, hnd⟩ := src_den (P := P) (tx := u) s (.inl ⟨et, hu⟩) hden hsrc
  have hn := unbytes_spec news ds l hnd hl
  have hm1 : ∀ (b : Option Addr) (n cap : Nat), v = .slice b n cap → n = m := fun b n cap hvv => by
    have := hS.len w
    rw [hvv] at this
    simpa [Builtin.lenOf] using this
  have some_ : ∀ (b : Addr) (n cap : Nat), v = .slice (some b) n cap → (execOp a.eval o).run P w = .ok (.value (.string (l.foldl (fun r n => r.push (UInt8.ofNat n.toNat)) ByteArray.empty))) w := fun b n cap hvv => by
    have hnm := hm1 _ _ _ hvv
    have hc := hS.cells
    rw [hvv] at hc
    simp only [Builtin.firstCells, Nat.mul_one] at hc
    rw [hn, ← hnm] at hc
    have := run_bytesToString (P := P) w b n cap l hc
    rw [← run_convert_bytes_string w u t et (some b) n cap hu he ht] at this
    simp [execOp, hop, hv, hvv, this]
  have nil_ : v = .slice none 0 0 → (execOp a.eval o).run P w = .ok (.value (.string (l.foldl (fun r n => r.push (UInt8.ofNat n.toNat)) ByteArray.empty))) w := fun hvv => by
    have hnm := hm1 _ _ _ hvv
    have hl0 : l = [] := by
      have := hS.newsLen
      rw [hn, ← hnm] at this
      exact List.eq_nil_of_length_eq_zero (by simpa using this)
    subst hl0
    have := run_convert_bytes_string (P := P) w u t et none 0 0 hu he ht
    simp [execOp, hop, hv, hvv, this, Conv.bytesToString]
  have run : (execOp a.eval o).run P w = .ok (.value (.string (l.foldl (fun r n => r.push (UInt8.ofNat n.toNat)) ByteArray.empty))) w := by
    generalize (rd C.pg.gl e x').wk = y at *
    unfold src at hsrc
    split at hsrc <;> try (cases hsrc; done)
    · cases hden with
      | slnil _ => exact nil_ rfl
      | sl b o cap _ sz' _ us hz hn hm hs' hcl hone hdl => exact some_ _ _ _ rfl
    · cases hden with
      | slr _ _ _ _ b mm cap _ hl _ _ _ _ _ => exact some_ _ _ _ rfl
    · exact (hne _ rfl).elim
  exact still s (v := .string _) run (.val _ rfl)
end
end Go.Em
