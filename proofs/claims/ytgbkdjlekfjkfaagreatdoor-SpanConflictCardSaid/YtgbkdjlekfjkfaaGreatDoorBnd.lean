/- Bounds of the example. -/
import Derived.Test.YtgbkdjlekfjkfaaGreatDoorEx
namespace Go.Proofs.YtgbkdjlekfjkfaaGreatDoor
open Go Go.Em
set_option maxRecDepth 100000
theorem bnd_ex_t (R : Rc) : ((rcT pg tb1 R 50).fn 45 [ex, I 0, I 9] .empty).map (fun p => p.1) = some (.ret (.tup [I 14, I 19, I 0])) := by kernel_rfl
theorem bnd_ex (m : Nat) : ((rc pg (m + 90)).fn 45 [ex, I 0, I 9] .empty).map (fun p => p.1) = some (.ret (.tup [I 14, I 19, I 0])) := by
  have h := rcT_eq (pg := pg) (T := tb1) (b := m + 40) (fun n hn => tb1_ok n (by omega)) 50
  have e : m + 40 + 50 = m + 90 := by omega
  rw [e] at h
  rw [← h]
  exact bnd_ex_t _
theorem bnd_pure (m : Nat) : pureCall (rc pg (m + 90)) 45 [ex, I 0, I 9] = some (.ret (.tup [I 14, I 19, I 0])) := by
  have h := rcT_eq (pg := pg) (T := tb1) (b := m + 40) (fun n hn => tb1_ok n (by omega)) 50
  have e : m + 40 + 50 = m + 90 := by omega
  rw [e] at h
  have h2 := bnd_ex m
  unfold pureCall
  cases hc : (rc pg (m + 90)).fn 45 [ex, I 0, I 9] .empty with
  | none => rw [hc] at h2; cases h2
  | some p =>
    obtain ⟨o, hh⟩ := p
    rw [hc] at h2
    simp only [Option.map_some, Option.some.injEq] at h2
    subst h2
    rfl
end Go.Proofs.YtgbkdjlekfjkfaaGreatDoor
/- Most of the example. -/
namespace Go.Proofs.YtgbkdjlekfjkfaaGreatDoor
open Go Go.Em
set_option maxRecDepth 100000
theorem most_ex_t (R : Rc) : pureCall (rcT pg tb1 R 50) 46 [ex, I 0, I 9] = some (.ret (.tup [I 19, .sl false [.agg [I 0, B false], .agg [I 1, B false], .agg [I 2, B false]], I 0])) := by kernel_rfl
theorem most_ex (m : Nat) : pureCall (rc pg (m + 90)) 46 [ex, I 0, I 9] = some (.ret (.tup [I 19, .sl false [.agg [I 0, B false], .agg [I 1, B false], .agg [I 2, B false]], I 0])) := by
  have h := rcT_eq (pg := pg) (T := tb1) (b := m + 40) (fun n hn => tb1_ok n (by omega)) 50
  have e : m + 40 + 50 = m + 90 := by omega
  rw [e] at h
  rw [← h]
  exact most_ex_t _
end Go.Proofs.YtgbkdjlekfjkfaaGreatDoor
/- Chronology of the example. -/
namespace Go.Proofs.YtgbkdjlekfjkfaaGreatDoor
open Go Go.Em
set_option maxRecDepth 100000
theorem chr_ex_t (R : Rc) : pureCall (rcT pg tb1 R 50) 11 [ex, .sl false []] = some (.ret (.tup [.sl false [.agg [I 0, I 0], .agg [I 5, I 10], .agg [I 6, I 13], .agg [I 9, I 14]], I 0])) := by kernel_rfl
theorem chr_ex (m : Nat) : pureCall (rc pg (m + 90)) 11 [ex, .sl false []] = some (.ret (.tup [.sl false [.agg [I 0, I 0], .agg [I 5, I 10], .agg [I 6, I 13], .agg [I 9, I 14]], I 0])) := by
  have h := rcT_eq (pg := pg) (T := tb1) (b := m + 40) (fun n hn => tb1_ok n (by omega)) 50
  have e : m + 40 + 50 = m + 90 := by omega
  rw [e] at h
  rw [← h]
  exact chr_ex_t _
end Go.Proofs.YtgbkdjlekfjkfaaGreatDoor
/- Which sources of the example contradict each other. -/
namespace Go.Proofs.YtgbkdjlekfjkfaaGreatDoor
open Go Go.Em
set_option maxRecDepth 100000
theorem fails0_t (R : Rc) : ((rcT pg tb1 R 50).fn 70 [trial true true true true true] .empty).map (fun p => p.1) = some (.ret (B true)) := by kernel_rfl
theorem fails0 (m : Nat) : ((rc pg (m + 90)).fn 70 [trial true true true true true] .empty).map (fun p => p.1) = some (.ret (B true)) := by
  have h := rcT_eq (pg := pg) (T := tb1) (b := m + 40) (fun n hn => tb1_ok n (by omega)) 50
  have e : m + 40 + 50 = m + 90 := by omega
  rw [e] at h
  rw [← h]
  exact fails0_t _
theorem fails1_t (R : Rc) : ((rcT pg tb1 R 50).fn 70 [trial true true true true false] .empty).map (fun p => p.1) = some (.ret (B false)) := by kernel_rfl
theorem fails1 (m : Nat) : ((rc pg (m + 90)).fn 70 [trial true true true true false] .empty).map (fun p => p.1) = some (.ret (B false)) := by
  have h := rcT_eq (pg := pg) (T := tb1) (b := m + 40) (fun n hn => tb1_ok n (by omega)) 50
  have e : m + 40 + 50 = m + 90 := by omega
  rw [e] at h
  rw [← h]
  exact fails1_t _
theorem fails2_t (R : Rc) : ((rcT pg tb1 R 50).fn 70 [trial true true true false true] .empty).map (fun p => p.1) = some (.ret (B false)) := by kernel_rfl
theorem fails2 (m : Nat) : ((rc pg (m + 90)).fn 70 [trial true true true false true] .empty).map (fun p => p.1) = some (.ret (B false)) := by
  have h := rcT_eq (pg := pg) (T := tb1) (b := m + 40) (fun n hn => tb1_ok n (by omega)) 50
  have e : m + 40 + 50 = m + 90 := by omega
  rw [e] at h
  rw [← h]
  exact fails2_t _
end Go.Proofs.YtgbkdjlekfjkfaaGreatDoor
/- Which sources of the example contradict each other. -/
namespace Go.Proofs.YtgbkdjlekfjkfaaGreatDoor
open Go Go.Em
set_option maxRecDepth 100000
theorem fails3_t (R : Rc) : ((rcT pg tb1 R 50).fn 70 [trial true true false true true] .empty).map (fun p => p.1) = some (.ret (B true)) := by kernel_rfl
theorem fails3 (m : Nat) : ((rc pg (m + 90)).fn 70 [trial true true false true true] .empty).map (fun p => p.1) = some (.ret (B true)) := by
  have h := rcT_eq (pg := pg) (T := tb1) (b := m + 40) (fun n hn => tb1_ok n (by omega)) 50
  have e : m + 40 + 50 = m + 90 := by omega
  rw [e] at h
  rw [← h]
  exact fails3_t _
theorem fails4_t (R : Rc) : ((rcT pg tb1 R 50).fn 70 [trial true false false true true] .empty).map (fun p => p.1) = some (.ret (B true)) := by kernel_rfl
theorem fails4 (m : Nat) : ((rc pg (m + 90)).fn 70 [trial true false false true true] .empty).map (fun p => p.1) = some (.ret (B true)) := by
  have h := rcT_eq (pg := pg) (T := tb1) (b := m + 40) (fun n hn => tb1_ok n (by omega)) 50
  have e : m + 40 + 50 = m + 90 := by omega
  rw [e] at h
  rw [← h]
  exact fails4_t _
theorem fails5_t (R : Rc) : ((rcT pg tb1 R 50).fn 70 [trial false false false true true] .empty).map (fun p => p.1) = some (.ret (B true)) := by kernel_rfl
theorem fails5 (m : Nat) : ((rc pg (m + 90)).fn 70 [trial false false false true true] .empty).map (fun p => p.1) = some (.ret (B true)) := by
  have h := rcT_eq (pg := pg) (T := tb1) (b := m + 40) (fun n hn => tb1_ok n (by omega)) 50
  have e : m + 40 + 50 = m + 90 := by omega
  rw [e] at h
  rw [← h]
  exact fails5_t _
theorem cyc_mo_t (R : Rc) : ((rcT pg tb1 R 50).fn 51 [mo, chn] .empty).map (fun p => p.1) = some (.ret (I 0)) := by kernel_rfl
theorem cyc_mo (m : Nat) : ((rc pg (m + 90)).fn 51 [mo, chn] .empty).map (fun p => p.1) = some (.ret (I 0)) := by
  have h := rcT_eq (pg := pg) (T := tb1) (b := m + 40) (fun n hn => tb1_ok n (by omega)) 50
  have e : m + 40 + 50 = m + 90 := by omega
  rw [e] at h
  rw [← h]
  exact cyc_mo_t _
end Go.Proofs.YtgbkdjlekfjkfaaGreatDoor
/- The last piece of the check of examples: conflicts. -/
namespace Go.Proofs.YtgbkdjlekfjkfaaGreatDoor
open Go Go.Em
set_option maxRecDepth 100000
def k10t : Cd :=
  .seq (.region [⟨none, some 31, .inl (.mv (.s 1))⟩,
 ⟨none, some 32, .inl (.bld [(.int .i64 0), (.int .i64 0), (.int .i64 0), (.int .i64 0), (.int .i64 0)] [(0, 1, (.c (.int .i64 9))), (1, 1, (.c (.int .i64 0))), (2, 1, (.c (.int .i64 (-13)))), (3, 1, (.c (.int .i64 (-13)))), (4, 1, (.c (.int .i64 7)))])⟩,
 ⟨none, some 33, .inl (.bs 70 5 1 [(.int .i64 0), (.int .i64 0), (.int .i64 0), (.int .i64 0), (.int .i64 0)] [(0, (.s 32))])⟩,
 ⟨none, some 34, .inl (.app 70 5 40 (.s 31) (.s 33))⟩,
 ⟨none, some 10, .inl (.mv (.s 34))⟩])
 (.seq (.region [⟨none, some 36, .inl (.mv (.s 10))⟩,
 ⟨none, some 37, .inr (.fn 47 [(.s 36)])⟩,
 ⟨none, some 35, .inl (.mv (.s 37))⟩,
 ⟨none, some 38, .inl (.ex (.s 35) 0)⟩,
 ⟨none, some 39, .inl (.ex (.s 35) 1)⟩,
 ⟨none, some 11, .inl (.mv (.s 38))⟩,
 ⟨none, some 12, .inl (.mv (.s 39))⟩])
 (.seq (.region [⟨none, some 40, .inl (.mv (.s 2))⟩,
 ⟨none, some 41, .inl (.bin .eql (.s 40) (.c (.int .i64 14)))⟩,
 ⟨none, some 42, .inl (.mv (.s 41))⟩,
 ⟨some (42, true), some 43, .inl (.mv (.s 3))⟩,
 ⟨some (42, true), some 44, .inl (.bin .eql (.s 43) (.c (.int .i64 19)))⟩,
 ⟨none, some 45, .inl (.pick (.s 42) (.s 44) (.c (.bool false)))⟩,
 ⟨none, some 46, .inl (.mv (.s 45))⟩,
 ⟨some (46, true), some 47, .inl (.mv (.s 4))⟩,
 ⟨some (46, true), some 48, .inl (.bin .eql (.s 47) (.c (.int .i64 0)))⟩,
 ⟨none, some 49, .inl (.pick (.s 46) (.s 48) (.c (.bool false)))⟩,
 ⟨none, some 50, .inl (.mv (.s 49))⟩,
 ⟨some (50, true), some 51, .inl (.mv (.s 5))⟩,
 ⟨some (50, true), some 52, .inl (.bin .eql (.s 51) (.c (.int .i64 19)))⟩,
 ⟨none, some 53, .inl (.pick (.s 50) (.s 52) (.c (.bool false)))⟩,
 ⟨none, some 54, .inl (.mv (.s 53))⟩,
 ⟨some (54, true), some 55, .inl (.mv (.s 7))⟩,
 ⟨some (54, true), some 56, .inl (.bin .eql (.s 55) (.c (.int .i64 0)))⟩,
 ⟨none, some 57, .inl (.pick (.s 54) (.s 56) (.c (.bool false)))⟩,
 ⟨none, some 58, .inl (.mv (.s 57))⟩,
 ⟨some (58, true), some 59, .inl (.mv (.s 6))⟩,
 ⟨some (58, true), some 60, .inl (.bld [(.int .i64 0), (.bool false)] [(0, 1, (.c (.int .i64 0)))])⟩,
 ⟨some (58, true), some 61, .inl (.bld [(.int .i64 0), (.bool false)] [(0, 1, (.c (.int .i64 1)))])⟩,
 ⟨some (58, true), some 62, .inl (.bld [(.int .i64 0), (.bool false)] [(0, 1, (.c (.int .i64 2)))])⟩,
 ⟨some (58, true), some 63, .inl (.bst 81 2 3 [(.int .i64 0), (.bool false)] [(0, (.s 60)), (1, (.s 61)), (2, (.s 62))])⟩,
 ⟨some (58, true), some 64, .inr (.fn 48 [(.s 59), (.s 63)])⟩,
 ⟨none, some 65, .inl (.pick (.s 58) (.s 64) (.c (.bool false)))⟩,
 ⟨none, some 66, .inl (.mv (.s 65))⟩,
 ⟨some (66, true), some 67, .inl (.mv (.s 8))⟩,
 ⟨some (66, true), some 68, .inl (.bld [(.int .i64 0), (.int .i64 0)] [(0, 1, (.c (.int .i64 0)))])⟩,
 ⟨some (66, true), some 69, .inl (.bld [(.int .i64 0), (.int .i64 0)] [(0, 1, (.c (.int .i64 5))), (1, 1, (.c (.int .i64 10)))])⟩,
 ⟨some (66, true), some 70, .inl (.bld [(.int .i64 0), (.int .i64 0)] [(0, 1, (.c (.int .i64 6))), (1, 1, (.c (.int .i64 13)))])⟩,
 ⟨some (66, true), some 71, .inl (.bld [(.int .i64 0), (.int .i64 0)] [(0, 1, (.c (.int .i64 9))), (1, 1, (.c (.int .i64 14)))])⟩,
 ⟨some (66, true), some 72, .inl (.bst 84 2 4 [(.int .i64 0), (.int .i64 0)] [(0, (.s 68)), (1, (.s 69)), (2, (.s 70)), (3, (.s 71))])⟩,
 ⟨some (66, true), some 73, .inr (.fn 49 [(.s 67), (.s 72)])⟩,
 ⟨none, some 74, .inl (.pick (.s 66) (.s 73) (.c (.bool false)))⟩,
 ⟨none, some 75, .inl (.mv (.s 74))⟩,
 ⟨some (75, true), some 76, .inl (.mv (.s 9))⟩,
 ⟨some (75, true), some 77, .inl (.bin .eql (.s 76) (.c (.int .i64 0)))⟩,
 ⟨none, some 78, .inl (.pick (.s 75) (.s 77) (.c (.bool false)))⟩,
 ⟨none, some 79, .inl (.mv (.s 78))⟩,
 ⟨some (79, true), some 80, .inl (.mv (.s 11))⟩,
 ⟨some (79, true), some 81, .inl (.bst 3 1 2 [(.int .i64 0)] [(0, (.c (.int .i64 4))), (1, (.c (.int .i64 7)))])⟩,
 ⟨some (79, true), some 82, .inr (.fn 50 [(.s 80), (.s 81)])⟩,
 ⟨none, some 83, .inl (.pick (.s 79) (.s 82) (.c (.bool false)))⟩,
 ⟨none, some 84, .inl (.mv (.s 83))⟩,
 ⟨some (84, true), some 85, .inl (.mv (.s 12))⟩,
 ⟨some (84, true), some 86, .inl (.bin .eql (.s 85) (.c (.int .i64 0)))⟩,
 ⟨none, some 87, .inl (.pick (.s 84) (.s 86) (.c (.bool false)))⟩,
 ⟨none, some 88, .inl (.mv (.s 87))⟩,
 ⟨some (88, true), some 89, .inl (.mv (.s 10))⟩,
 ⟨some (88, true), some 90, .inl (.bld [(.int .i64 0), (.bool false)] [(0, 1, (.c (.int .i64 3))), (1, 1, (.c (.bool true)))])⟩,
 ⟨some (88, true), some 91, .inl (.bld [(.int .i64 0), (.bool false)] [(0, 1, (.c (.int .i64 4))), (1, 1, (.c (.bool true)))])⟩,
 ⟨some (88, true), some 92, .inl (.bst 81 2 2 [(.int .i64 0), (.bool false)] [(0, (.s 90)), (1, (.s 91))])⟩,
 ⟨some (88, true), some 93, .inr (.fn 51 [(.s 89), (.s 92)])⟩,
 ⟨some (88, true), some 94, .inl (.bin .eql (.s 93) (.c (.int .i64 0)))⟩,
 ⟨none, some 95, .inl (.pick (.s 88) (.s 94) (.c (.bool false)))⟩,
 ⟨none, some 0, .inl (.mv (.s 95))⟩])
 (.ret)))
theorem k10_eq : k10 = .seq (.region [⟨none, some 0, .inl (.mv (.c (.bool false)))⟩])
 (.seq (.region [⟨none, some 13, .inr (.fn 44 [])⟩,
 ⟨none, some 1, .inl (.mv (.s 13))⟩])
 (.seq (.region [⟨none, some 15, .inl (.mv (.s 1))⟩,
 ⟨none, some 16, .inr (.fn 45 [(.s 15), (.c (.int .i64 0)), (.c (.int .i64 9))])⟩,
 ⟨none, some 14, .inl (.mv (.s 16))⟩,
 ⟨none, some 17, .inl (.ex (.s 14) 0)⟩,
 ⟨none, some 18, .inl (.ex (.s 14) 1)⟩,
 ⟨none, some 19, .inl (.ex (.s 14) 2)⟩,
 ⟨none, some 2, .inl (.mv (.s 17))⟩,
 ⟨none, some 3, .inl (.mv (.s 18))⟩,
 ⟨none, some 4, .inl (.mv (.s 19))⟩])
 (.seq (.region [⟨none, some 21, .inl (.mv (.s 1))⟩,
 ⟨none, some 22, .inr (.fn 46 [(.s 21), (.c (.int .i64 0)), (.c (.int .i64 9))])⟩,
 ⟨none, some 20, .inl (.mv (.s 22))⟩,
 ⟨none, some 23, .inl (.ex (.s 20) 0)⟩,
 ⟨none, some 24, .inl (.ex (.s 20) 1)⟩,
 ⟨none, some 25, .inl (.ex (.s 20) 2)⟩,
 ⟨none, some 5, .inl (.mv (.s 23))⟩,
 ⟨none, some 6, .inl (.mv (.s 24))⟩,
 ⟨none, some 7, .inl (.mv (.s 25))⟩])
 (.seq (.region [⟨none, some 27, .inl (.mv (.s 1))⟩,
 ⟨none, some 28, .inr (.fn 11 [(.s 27), (.c (.slice none 0 0))])⟩,
 ⟨none, some 26, .inl (.mv (.s 28))⟩,
 ⟨none, some 29, .inl (.ex (.s 26) 0)⟩,
 ⟨none, some 30, .inl (.ex (.s 26) 1)⟩,
 ⟨none, some 8, .inl (.mv (.s 29))⟩,
 ⟨none, some 9, .inl (.mv (.s 30))⟩])
  (k10t))))) := rfl
def tb2 : List (FuncId × List D × D) := [(38, [mo], I 0), (51, [mo, chn], I 0), (70, [trial true true true true true], B true), (70, [trial true true true true false], B false), (70, [trial true true true false true], B false), (70, [trial true true false true true], B true), (70, [trial true false false true true], B true), (70, [trial false false false true true], B true)]
theorem tb2_ok (n : Nat) (hn : 90 ≤ n) : ∀ e, e ∈ tb2 → ((rc pg n).fn e.1 e.2.1 .empty).map (fun p => p.1) = some (.ret e.2.2) := by
  obtain ⟨m, rfl⟩ := more_of hn
  intro e he
  simp only [tb2, List.mem_cons, List.not_mem_nil, or_false] at he
  rcases he with rfl | rfl | rfl | rfl | rfl | rfl | rfl | rfl
  · exact ck_mo (m + 50)
  · exact cyc_mo m
  · exact fails0 m
  · exact fails1 m
  · exact fails2 m
  · exact fails3 m
  · exact fails4 m
  · exact fails5 m
def eT : List D := [B false, .sl true exL, I 14, I 19, I 0, I 19, .sl false [.agg [I 0, B false], .agg [I 1, B false], .agg [I 2, B false]], I 0, .sl false [.agg [I 0, I 0], .agg [I 5, I 10], .agg [I 6, I 13], .agg [I 9, I 14]], I 0, .junk, .junk, .junk, .sl true exL, .tup [I 14, I 19, I 0], .sl true exL, .tup [I 14, I 19, I 0], I 14, I 19, I 0, .tup [I 19, .sl false [.agg [I 0, B false], .agg [I 1, B false], .agg [I 2, B false]], I 0], .sl true exL, .tup [I 19, .sl false [.agg [I 0, B false], .agg [I 1, B false], .agg [I 2, B false]], I 0], I 19, .sl false [.agg [I 0, B false], .agg [I 1, B false], .agg [I 2, B false]], I 0, .tup [.sl false [.agg [I 0, I 0], .agg [I 5, I 10], .agg [I 6, I 13], .agg [I 9, I 14]], I 0], .sl true exL, .tup [.sl false [.agg [I 0, I 0], .agg [I 5, I 10], .agg [I 6, I 13], .agg [I 9, I 14]], I 0], .sl false [.agg [I 0, I 0], .agg [I 5, I 10], .agg [I 6, I 13], .agg [I 9, I 14]], I 0, .junk, .junk, .junk, .junk, .junk, .junk, .junk, .junk, .junk, .junk, .junk, .junk, .junk, .junk, .junk, .junk, .junk, .junk, .junk, .junk, .junk, .junk, .junk, .junk, .junk, .junk, .junk, .junk, .junk, .junk, .junk, .junk, .junk, .junk, .junk, .junk, .junk, .junk, .junk, .junk, .junk, .junk, .junk, .junk, .junk, .junk, .junk, .junk, .junk, .junk, .junk, .junk, .junk, .junk, .junk, .junk, .junk, .junk, .junk, .junk, .junk, .junk, .junk, .junk, .junk]
theorem tail_run (R : Rc) : endK (rcT pg tb2 R 60) [(.tmp 0, false, 0)] (k10t.ev ⟨pg, 96, none⟩ (rcT pg tb2 R 60) ⟨eT, ⟨[], 480, []⟩, []⟩) = some (.ret (.val (.bool true))) := by kernel_rfl
end Go.Proofs.YtgbkdjlekfjkfaaGreatDoor
/- The check of examples that each law runs first answers true: the kernel runs the evaluator, piece by piece. -/
namespace Go.Proofs.YtgbkdjlekfjkfaaGreatDoor
open Go Go.Em
set_option maxRecDepth 100000
theorem claims_run (m : Nat) : pureT (rc pg (m + 10)) 44 = some (.ret (.sl true exL)) := by kernel_rfl
theorem frz1 (h : Heap) : each (frz h depth) [D.sl true exL, .val (.int .i64 0), .val (.int .i64 9)] = some ([ex, I 0, I 9], []) := by kernel_rfl
theorem frz2 (h : Heap) : each (frz h depth) [D.sl true exL, .val (.slice none 0 0)] = some ([ex, .sl false []], []) := by kernel_rfl
theorem sane_run (m : Nat) : pureCall (rc pg (m + 151)) 10 [] = some (.ret (.val (.bool true))) := by
  obtain ⟨m1, hm, e⟩ := body (pg := pg) (f := 10) (args := []) (show 0 < m + 151 by omega) rfl rfl
  obtain rfl : m1 = m + 150 := by omega
  rw [e, k10_eq]
  have c22 : ∀ h, call pg (rc pg (m + 150)) 44 [] h = some (.ret (.sl true exL), h) := fun h => by
    have := claims_run (m + 140)
    rw [show m + 140 + 10 = m + 150 by omega] at this
    have s : pg.sh 44 = false := rfl
    simp [call, s, pureA, this]
  have c23 : ∀ h, call pg (rc pg (m + 150)) 45 [.sl true exL, .val (.int .i64 0), .val (.int .i64 9)] h = some (.ret (.tup [I 14, I 19, I 0]), h) := fun h => call_frz rfl (frz1 h) (by have := bnd_pure (m + 60); rw [show m + 60 + 90 = m + 150 by omega] at this; exact this)
  have c24 : ∀ h, call pg (rc pg (m + 150)) 46 [.sl true exL, .val (.int .i64 0), .val (.int .i64 9)] h = some (.ret (.tup [I 19, .sl false [.agg [I 0, B false], .agg [I 1, B false], .agg [I 2, B false]], I 0]), h) := fun h => call_frz rfl (frz1 h) (by have := most_ex (m + 60); rw [show m + 60 + 90 = m + 150 by omega] at this; exact this)
  have c25 : ∀ h, call pg (rc pg (m + 150)) 11 [.sl true exL, .val (.slice none 0 0)] h = some (.ret (.tup [.sl false [.agg [I 0, I 0], .agg [I 5, I 10], .agg [I 6, I 13], .agg [I 9, I 14]], I 0]), h) := fun h => call_frz rfl (frz2 h) (by have := chr_ex (m + 60); rw [show m + 60 + 90 = m + 150 by omega] at this; exact this)
  simp [c22, c23, c24, c25]
  have h := rcT_eq (pg := pg) (T := tb2) (b := m + 90) (fun n hn => tb2_ok n (by omega)) 60
  have e2 : m + 90 + 60 = m + 150 := by omega
  rw [e2] at h
  rw [← h]
  generalize rc pg (m + 90) = R
  clear h c22 c23 c24 c25 e
  refine Eq.trans (congrArg (fun s => endK (rcT pg tb2 R 60) [(.tmp 0, false, 0)] (k10t.ev ⟨pg, 96, none⟩ (rcT pg tb2 R 60) s)) (?_ : _ = (⟨eT, ⟨[], 480, []⟩, []⟩ : St))) (tail_run R)
  kernel_rfl
theorem sane_call {n : Nat} (hn : 151 ≤ n) (h : Heap) : call pg (rc pg n) 10 [] h = some (.ret (D.bool true), h) := by
  obtain ⟨m, rfl⟩ := more_of hn
  exact call_of (pg := pg) (f := 10) (args := []) rfl rfl (sane_run m)
end Go.Proofs.YtgbkdjlekfjkfaaGreatDoor
