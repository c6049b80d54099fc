/- The table of small code is the program's own; entries and bytes as arguments. -/
import Derived.Test.YtkbamkdgiglljaaWa
import Derived.Test.YtkbamkdgiglljaaOa
import Derived.Test.YtkbamkdgiglljaaRows
import Derived.Test.YtkbamkdgiglljaaEmFlat
import Derived.ProofKit
import Derived.LaidMore
import Derived.OpenShut
import Derived.Stop.Joined
namespace Go.Proofs.Ytkbamkdgiglljaa
open Go Go.Em Go.RowKit Go.ChangeShapes Go.ChangeAt Go.WideShapes Go.Joins Go.Deep
set_option maxRecDepth 100000
theorem pg_ok : PgOk Try.prog pg := by
  intro f fc h
  change codeAt f = some fc at h
  unfold codeAt at h
  rcases bif_or h with h | h
  · rcases bif_or h with h | h
    · rcases bif_or h with h | h
      · rcases bif_or h with h | h
        · rcases bif_or h with h | h
          · rcases bif_or h with h | h
            · obtain ⟨e, rfl⟩ := bif_one h
              obtain rfl := Nat.eq_of_beq_eq_true e
              exact kc3
            · obtain ⟨e, rfl⟩ := bif_one h
              obtain rfl := Nat.eq_of_beq_eq_true e
              exact kc4
          · rcases bif_or h with h | h
            · obtain ⟨e, rfl⟩ := bif_one h
              obtain rfl := Nat.eq_of_beq_eq_true e
              exact kc5
            · rcases bif_or h with h | h
              · obtain ⟨e, rfl⟩ := bif_one h
                obtain rfl := Nat.eq_of_beq_eq_true e
                exact kc6
              · obtain ⟨e, rfl⟩ := bif_one h
                obtain rfl := Nat.eq_of_beq_eq_true e
                exact kc7
        · rcases bif_or h with h | h
          · rcases bif_or h with h | h
            · obtain ⟨e, rfl⟩ := bif_one h
              obtain rfl := Nat.eq_of_beq_eq_true e
              exact kc8
            · rcases bif_or h with h | h
              · obtain ⟨e, rfl⟩ := bif_one h
                obtain rfl := Nat.eq_of_beq_eq_true e
                exact kc9
              · obtain ⟨e, rfl⟩ := bif_one h
                obtain rfl := Nat.eq_of_beq_eq_true e
                exact kc10
          · rcases bif_or h with h | h
            · obtain ⟨e, rfl⟩ := bif_one h
              obtain rfl := Nat.eq_of_beq_eq_true e
              exact kc11
            · rcases bif_or h with h | h
              · obtain ⟨e, rfl⟩ := bif_one h
                obtain rfl := Nat.eq_of_beq_eq_true e
                exact kc12
              · obtain ⟨e, rfl⟩ := bif_one h
                obtain rfl := Nat.eq_of_beq_eq_true e
                exact kc13
      · rcases bif_or h with h | h
        · rcases bif_or h with h | h
          · rcases bif_or h with h | h
            · obtain ⟨e, rfl⟩ := bif_one h
              obtain rfl := Nat.eq_of_beq_eq_true e
              exact kc14
            · obtain ⟨e, rfl⟩ := bif_one h
              obtain rfl := Nat.eq_of_beq_eq_true e
              exact kc15
          · rcases bif_or h with h | h
            · obtain ⟨e, rfl⟩ := bif_one h
              obtain rfl := Nat.eq_of_beq_eq_true e
              exact kc16
            · rcases bif_or h with h | h
              · obtain ⟨e, rfl⟩ := bif_one h
                obtain rfl := Nat.eq_of_beq_eq_true e
                exact kc17
              · obtain ⟨e, rfl⟩ := bif_one h
                obtain rfl := Nat.eq_of_beq_eq_true e
                exact kc18
        · rcases bif_or h with h | h
          · rcases bif_or h with h | h
            · obtain ⟨e, rfl⟩ := bif_one h
              obtain rfl := Nat.eq_of_beq_eq_true e
              exact kc19
            · rcases bif_or h with h | h
              · obtain ⟨e, rfl⟩ := bif_one h
                obtain rfl := Nat.eq_of_beq_eq_true e
                exact kc20
              · obtain ⟨e, rfl⟩ := bif_one h
                obtain rfl := Nat.eq_of_beq_eq_true e
                exact kc21
          · rcases bif_or h with h | h
            · obtain ⟨e, rfl⟩ := bif_one h
              obtain rfl := Nat.eq_of_beq_eq_true e
              exact kc22
            · rcases bif_or h with h | h
              · obtain ⟨e, rfl⟩ := bif_one h
                obtain rfl := Nat.eq_of_beq_eq_true e
                exact kc23
              · obtain ⟨e, rfl⟩ := bif_one h
                obtain rfl := Nat.eq_of_beq_eq_true e
                exact kc24
    · rcases bif_or h with h | h
      · rcases bif_or h with h | h
        · rcases bif_or h with h | h
          · rcases bif_or h with h | h
            · obtain ⟨e, rfl⟩ := bif_one h
              obtain rfl := Nat.eq_of_beq_eq_true e
              exact kc25
            · obtain ⟨e, rfl⟩ := bif_one h
              obtain rfl := Nat.eq_of_beq_eq_true e
              exact kc26
          · rcases bif_or h with h | h
            · obtain ⟨e, rfl⟩ := bif_one h
              obtain rfl := Nat.eq_of_beq_eq_true e
              exact kc27
            · rcases bif_or h with h | h
              · obtain ⟨e, rfl⟩ := bif_one h
                obtain rfl := Nat.eq_of_beq_eq_true e
                exact kc28
              · obtain ⟨e, rfl⟩ := bif_one h
                obtain rfl := Nat.eq_of_beq_eq_true e
                exact kc29
        · rcases bif_or h with h | h
          · rcases bif_or h with h | h
            · obtain ⟨e, rfl⟩ := bif_one h
              obtain rfl := Nat.eq_of_beq_eq_true e
              exact kc30
            · rcases bif_or h with h | h
              · obtain ⟨e, rfl⟩ := bif_one h
                obtain rfl := Nat.eq_of_beq_eq_true e
                exact kc31
              · obtain ⟨e, rfl⟩ := bif_one h
                obtain rfl := Nat.eq_of_beq_eq_true e
                exact kc32
          · rcases bif_or h with h | h
            · obtain ⟨e, rfl⟩ := bif_one h
              obtain rfl := Nat.eq_of_beq_eq_true e
              exact kc33
            · rcases bif_or h with h | h
              · obtain ⟨e, rfl⟩ := bif_one h
                obtain rfl := Nat.eq_of_beq_eq_true e
                exact kc34
              · obtain ⟨e, rfl⟩ := bif_one h
                obtain rfl := Nat.eq_of_beq_eq_true e
                exact kc35
      · rcases bif_or h with h | h
        · rcases bif_or h with h | h
          · rcases bif_or h with h | h
            · obtain ⟨e, rfl⟩ := bif_one h
              obtain rfl := Nat.eq_of_beq_eq_true e
              exact kc36
            · obtain ⟨e, rfl⟩ := bif_one h
              obtain rfl := Nat.eq_of_beq_eq_true e
              exact kc37
          · rcases bif_or h with h | h
            · obtain ⟨e, rfl⟩ := bif_one h
              obtain rfl := Nat.eq_of_beq_eq_true e
              exact kc38
            · rcases bif_or h with h | h
              · obtain ⟨e, rfl⟩ := bif_one h
                obtain rfl := Nat.eq_of_beq_eq_true e
                exact kc39
              · obtain ⟨e, rfl⟩ := bif_one h
                obtain rfl := Nat.eq_of_beq_eq_true e
                exact kc40
        · rcases bif_or h with h | h
          · rcases bif_or h with h | h
            · obtain ⟨e, rfl⟩ := bif_one h
              obtain rfl := Nat.eq_of_beq_eq_true e
              exact kc41
            · rcases bif_or h with h | h
              · obtain ⟨e, rfl⟩ := bif_one h
                obtain rfl := Nat.eq_of_beq_eq_true e
                exact kc42
              · obtain ⟨e, rfl⟩ := bif_one h
                obtain rfl := Nat.eq_of_beq_eq_true e
                exact kc43
          · rcases bif_or h with h | h
            · obtain ⟨e, rfl⟩ := bif_one h
              obtain rfl := Nat.eq_of_beq_eq_true e
              exact kc44
            · rcases bif_or h with h | h
              · obtain ⟨e, rfl⟩ := bif_one h
                obtain rfl := Nat.eq_of_beq_eq_true e
                exact kc45
              · obtain ⟨e, rfl⟩ := bif_one h
                obtain rfl := Nat.eq_of_beq_eq_true e
                exact kc46
  · rcases bif_or h with h | h
    · rcases bif_or h with h | h
      · rcases bif_or h with h | h
        · rcases bif_or h with h | h
          · rcases bif_or h with h | h
            · obtain ⟨e, rfl⟩ := bif_one h
              obtain rfl := Nat.eq_of_beq_eq_true e
              exact kc47
            · obtain ⟨e, rfl⟩ := bif_one h
              obtain rfl := Nat.eq_of_beq_eq_true e
              exact kc48
          · rcases bif_or h with h | h
            · obtain ⟨e, rfl⟩ := bif_one h
              obtain rfl := Nat.eq_of_beq_eq_true e
              exact kc49
            · rcases bif_or h with h | h
              · obtain ⟨e, rfl⟩ := bif_one h
                obtain rfl := Nat.eq_of_beq_eq_true e
                exact kc50
              · obtain ⟨e, rfl⟩ := bif_one h
                obtain rfl := Nat.eq_of_beq_eq_true e
                exact kc51
        · rcases bif_or h with h | h
          · rcases bif_or h with h | h
            · obtain ⟨e, rfl⟩ := bif_one h
              obtain rfl := Nat.eq_of_beq_eq_true e
              exact kc52
            · rcases bif_or h with h | h
              · obtain ⟨e, rfl⟩ := bif_one h
                obtain rfl := Nat.eq_of_beq_eq_true e
                exact kc53
              · obtain ⟨e, rfl⟩ := bif_one h
                obtain rfl := Nat.eq_of_beq_eq_true e
                exact kc54
          · rcases bif_or h with h | h
            · obtain ⟨e, rfl⟩ := bif_one h
              obtain rfl := Nat.eq_of_beq_eq_true e
              exact kc55
            · rcases bif_or h with h | h
              · obtain ⟨e, rfl⟩ := bif_one h
                obtain rfl := Nat.eq_of_beq_eq_true e
                exact kc56
              · obtain ⟨e, rfl⟩ := bif_one h
                obtain rfl := Nat.eq_of_beq_eq_true e
                exact kc57
      · rcases bif_or h with h | h
        · rcases bif_or h with h | h
          · rcases bif_or h with h | h
            · obtain ⟨e, rfl⟩ := bif_one h
              obtain rfl := Nat.eq_of_beq_eq_true e
              exact kc58
            · obtain ⟨e, rfl⟩ := bif_one h
              obtain rfl := Nat.eq_of_beq_eq_true e
              exact kc59
          · rcases bif_or h with h | h
            · obtain ⟨e, rfl⟩ := bif_one h
              obtain rfl := Nat.eq_of_beq_eq_true e
              exact kc60
            · rcases bif_or h with h | h
              · obtain ⟨e, rfl⟩ := bif_one h
                obtain rfl := Nat.eq_of_beq_eq_true e
                exact kc61
              · obtain ⟨e, rfl⟩ := bif_one h
                obtain rfl := Nat.eq_of_beq_eq_true e
                exact kc62
        · rcases bif_or h with h | h
          · rcases bif_or h with h | h
            · obtain ⟨e, rfl⟩ := bif_one h
              obtain rfl := Nat.eq_of_beq_eq_true e
              exact kc63
            · rcases bif_or h with h | h
              · obtain ⟨e, rfl⟩ := bif_one h
                obtain rfl := Nat.eq_of_beq_eq_true e
                exact kc64
              · obtain ⟨e, rfl⟩ := bif_one h
                obtain rfl := Nat.eq_of_beq_eq_true e
                exact kc65
          · rcases bif_or h with h | h
            · obtain ⟨e, rfl⟩ := bif_one h
              obtain rfl := Nat.eq_of_beq_eq_true e
              exact kc66
            · rcases bif_or h with h | h
              · obtain ⟨e, rfl⟩ := bif_one h
                obtain rfl := Nat.eq_of_beq_eq_true e
                exact kc67
              · obtain ⟨e, rfl⟩ := bif_one h
                obtain rfl := Nat.eq_of_beq_eq_true e
                exact kc68
    · rcases bif_or h with h | h
      · rcases bif_or h with h | h
        · rcases bif_or h with h | h
          · rcases bif_or h with h | h
            · obtain ⟨e, rfl⟩ := bif_one h
              obtain rfl := Nat.eq_of_beq_eq_true e
              exact kc69
            · obtain ⟨e, rfl⟩ := bif_one h
              obtain rfl := Nat.eq_of_beq_eq_true e
              exact kc70
          · rcases bif_or h with h | h
            · obtain ⟨e, rfl⟩ := bif_one h
              obtain rfl := Nat.eq_of_beq_eq_true e
              exact kc71
            · rcases bif_or h with h | h
              · obtain ⟨e, rfl⟩ := bif_one h
                obtain rfl := Nat.eq_of_beq_eq_true e
                exact kc72
              · obtain ⟨e, rfl⟩ := bif_one h
                obtain rfl := Nat.eq_of_beq_eq_true e
                exact kc73
        · rcases bif_or h with h | h
          · rcases bif_or h with h | h
            · obtain ⟨e, rfl⟩ := bif_one h
              obtain rfl := Nat.eq_of_beq_eq_true e
              exact kc74
            · rcases bif_or h with h | h
              · obtain ⟨e, rfl⟩ := bif_one h
                obtain rfl := Nat.eq_of_beq_eq_true e
                exact kc75
              · obtain ⟨e, rfl⟩ := bif_one h
                obtain rfl := Nat.eq_of_beq_eq_true e
                exact kc76
          · rcases bif_or h with h | h
            · obtain ⟨e, rfl⟩ := bif_one h
              obtain rfl := Nat.eq_of_beq_eq_true e
              exact kc77
            · rcases bif_or h with h | h
              · obtain ⟨e, rfl⟩ := bif_one h
                obtain rfl := Nat.eq_of_beq_eq_true e
                exact kc78
              · obtain ⟨e, rfl⟩ := bif_one h
                obtain rfl := Nat.eq_of_beq_eq_true e
                exact kc79
      · rcases bif_or h with h | h
        · rcases bif_or h with h | h
          · rcases bif_or h with h | h
            · obtain ⟨e, rfl⟩ := bif_one h
              obtain rfl := Nat.eq_of_beq_eq_true e
              exact kc80
            · rcases bif_or h with h | h
              · obtain ⟨e, rfl⟩ := bif_one h
                obtain rfl := Nat.eq_of_beq_eq_true e
                exact kc81
              · obtain ⟨e, rfl⟩ := bif_one h
                obtain rfl := Nat.eq_of_beq_eq_true e
                exact kc82
          · rcases bif_or h with h | h
            · obtain ⟨e, rfl⟩ := bif_one h
              obtain rfl := Nat.eq_of_beq_eq_true e
              exact kc83
            · rcases bif_or h with h | h
              · obtain ⟨e, rfl⟩ := bif_one h
                obtain rfl := Nat.eq_of_beq_eq_true e
                exact kc84
              · obtain ⟨e, rfl⟩ := bif_one h
                obtain rfl := Nat.eq_of_beq_eq_true e
                exact kc85
        · rcases bif_or h with h | h
          · rcases bif_or h with h | h
            · obtain ⟨e, rfl⟩ := bif_one h
              obtain rfl := Nat.eq_of_beq_eq_true e
              exact kc86
            · rcases bif_or h with h | h
              · obtain ⟨e, rfl⟩ := bif_one h
                obtain rfl := Nat.eq_of_beq_eq_true e
                exact kc87
              · obtain ⟨e, rfl⟩ := bif_one h
                obtain rfl := Nat.eq_of_beq_eq_true e
                exact kc88
          · rcases bif_or h with h | h
            · obtain ⟨e, rfl⟩ := bif_one h
              obtain rfl := Nat.eq_of_beq_eq_true e
              exact kc89
            · rcases bif_or h with h | h
              · obtain ⟨e, rfl⟩ := bif_one h
                obtain rfl := Nat.eq_of_beq_eq_true e
                exact kc90
              · obtain ⟨e, rfl⟩ := bif_one h
                obtain rfl := Nat.eq_of_beq_eq_true e
                exact kc91
theorem own : ownKnob Try.prog.godebug = none := by kernel_rfl
theorem laidOk : laidOutB Try.prog = true := by kernel_rfl
theorem gl_pure : ∀ g cs, pg.gl g = some cs → D.pureL cs = true := fun _ _ h => by cases h
theorem words_in {W : World} : ∀ g cs, pg.gl g = some cs → Den (ctxOf W) (.pointer (some ⟨g, 0, none⟩)) (.eref cs) := fun _ _ h => by cases h
theorem size3 : Try.prog.cellsOf 3 = 1 := by kernel_rfl
theorem size4 : Try.prog.cellsOf 4 = 1 := by kernel_rfl
theorem size5 : Try.prog.cellsOf 5 = 1 := by kernel_rfl
theorem size9 : Try.prog.cellsOf 9 = 1 := by kernel_rfl
theorem size23 : Try.prog.cellsOf 23 = 2 := by kernel_rfl
theorem size25 : Try.prog.cellsOf 25 = 8 := by kernel_rfl
theorem bytes5 : Try.prog.bytesOf 5 = 1 := by kernel_rfl
section
variable {H : Type} {enc : TypeId × Value → H} {W : World} {base : Nat} {r : Reach} {b0 : Nat} {spare : Nat → Bool} {held : Bool} {v : Value} {d : DataW H} {p : List MemPlace}
theorem agg_of_struct {P : Program} {w : World} {t : TypeId} {fs : Array Field} {v : Value} (ht : P.underlying t = some (.struct fs)) (hv : Value.okWide P w r b0 t v) : ∃ cs, v = .agg cs := by
  simp only [Value.okWide, ht] at hv
  obtain ⟨cs, h, _⟩ := hv
  exact ⟨cs, h⟩
theorem reads_i : Reads enc Try.prog W base spare held 3 (fun n : Int => [D.int n]) (fun _ => True) :=
  (reads_int Try.underlying3).map id (fun _ => rfl) (fun _ _ => trivial)
theorem reads_place : Reads enc Try.prog W base spare held 23 (fun x : Int × Int => [D.int x.1, D.int x.2]) (fun _ => True) := by
  have := reads_struct (enc := enc) (w := W) (base := base) (spare := spare) (held := held) Try.underlying23 (by
    rw [size23]
    exact freads_cons (o := 0) reads_i rfl size3 (freads_cons (o := 1) reads_i rfl size3 freads_nil))
  exact this.map (fun x => ((x.1, x.2.1) : Int × Int)) (fun _ => rfl) (fun _ _ => trivial)
theorem reads_str : Reads enc Try.prog W base spare held 9 (fun s : ByteArray => [.val (.string s)]) (fun _ => True) :=
  (reads_string Try.underlying9).map id (fun _ => rfl) (fun _ _ => trivial)
theorem reads_entry : Reads enc Try.prog W base spare held 25 entL (fun _ => True) := by
  have := reads_struct (enc := enc) (w := W) (base := base) (spare := spare) (held := held) Try.underlying25 (by
    rw [size25]
    exact freads_cons (o := 0) reads_place rfl size23 (freads_cons (o := 2) reads_i rfl size3 (freads_cons (o := 3) reads_i rfl size3 (freads_cons (o := 4) reads_i rfl size3 (freads_cons (o := 5) reads_place rfl size23 (freads_cons (o := 7) reads_str rfl size9 freads_nil))))))
  exact this.map (fun x => (⟨x.1.1, x.1.2, x.2.1, x.2.2.1, x.2.2.2.1, x.2.2.2.2.1.1, x.2.2.2.2.1.2, x.2.2.2.2.2.1.data.toList⟩ : Ent)) (fun x => by simp [entL, strD]) (fun _ _ => trivial)
theorem reads_u8 : Reads enc Try.prog W base spare held 5 (fun b : UInt8 => [u1D b.toNat]) (fun _ => True) := by
  intro fuel cs x hx
  obtain ⟨n, rfl, _, hw⟩ := DataW.trod_int Try.underlying5 hx
  have hm : IntKind.u8.min = 0 := by decide
  have hM : IntKind.u8.max = 255 := by decide
  simp only [Lit.wf, hm, hM, Bool.and_eq_true, decide_eq_true_eq] at hw
  refine ⟨UInt8.ofNat n.toNat, ?_, fun _ => trivial⟩
  have e : (((UInt8.ofNat n.toNat).toNat : Nat) : Int) = n := by
    rw [UInt8.toNat_ofNat']; omega
  show DenL (ctxOf W) [Value.int IntKind.u8 n] [.val (.int .u8 (((UInt8.ofNat n.toNat).toNat : Nat) : Int))]
  rw [e]
  exact .cons _ _ _ _ (.val _ rfl) .nil
theorem reads_bytes : Reads enc Try.prog W base spare held 26 (fun l : List UInt8 => [bD l]) (fun l => l.length ≤ reachBytes) :=
  (reads_slice (fun b : UInt8 => u1D b.toNat) Try.underlying26 size5 (by omega) (fun _ => rfl) (fun _ => rfl) (fun _ => rfl) reads_u8).map id (fun _ => rfl) (fun a h => by have := h.1; rw [bytes5, Nat.mul_one] at this; exact this)
theorem entry_in (hv : Value.okWide Try.prog W r b0 25 v) (h : DataW.Trod enc Try.prog W base spare held 25 v d p) : ∃ x : Ent, Den (ctxOf W) v (entD x) := by
  obtain ⟨cs, rfl⟩ := agg_of_struct Try.underlying25 hv
  obtain ⟨a, ha, _⟩ := reads_entry.agg h
  exact ⟨a, ha⟩
theorem bytes_in (hv : Value.okWide Try.prog W r b0 26 v) (h : DataW.Trod enc Try.prog W base spare held 26 v d p) : ∃ l : List UInt8, ((d.weights Try.prog 26).all (· ≤ reachBytes) = true → l.length ≤ reachBytes) ∧ Den (ctxOf W) v (bD l) := by
  obtain ⟨a, len, cap, rfl⟩ := okWide_slice Try.underlying26 hv
  obtain ⟨l, h1, h2⟩ := reads_bytes.one rfl h
  exact ⟨l, h2, h1⟩
end
end Go.Proofs.Ytkbamkdgiglljaa
