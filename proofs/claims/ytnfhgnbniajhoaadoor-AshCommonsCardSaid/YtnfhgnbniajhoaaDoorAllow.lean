/- The answers of the dealer of the example. -/
import Derived.Test.YtnfhgnbniajhoaaDoorEmTab
import Derived.Test.YtnfhgnbniajhoaaDoorPg
import Derived.KernelRfl
namespace Go.Proofs.YtnfhgnbniajhoaaDoor
open Go Go.Em
set_option maxRecDepth 100000
def I (n : Int) : D := .val (.int .i64 n)
def exA (i k : Int) : D := .agg [I i, I k, I 10, I 20, I 10, I 20, I 10, I 20]
def ex : D := .sl false [exA 1 5, exA 2 9, exA 3 70, exA 4 75]
def dl : D := .agg [ex, .val (.bool false), .val (.bool false), .val (.bool false), .val (.bool false), .val (.bool false), .val (.bool false), .val (.bool false), .val (.bool false), .val (.bool false), .val (.bool true), .val (.bool false), .val (.bool false), .val (.bool false), .val (.bool false), .val (.bool false), .val (.bool false), .val (.bool false), .val (.bool false), .val (.bool false), .val (.bool false), .val (.bool false), .val (.bool false), .val (.bool false), .val (.bool false), .val (.bool false), .val (.bool false), .val (.bool false), .val (.bool false), .val (.bool false), .val (.bool true), .val (.bool false), .val (.bool false), .val (.bool false), .val (.bool false), .val (.bool false), .val (.bool false), .val (.bool false), .val (.bool false), .val (.bool false), .val (.bool false), .val (.bool false), .val (.bool false), .val (.bool false), .val (.bool false), .val (.bool false), .val (.bool false), .val (.bool false), .val (.bool false), .val (.bool false), .val (.bool false), .val (.bool false), .val (.bool false), .val (.bool false), .val (.bool false), .val (.bool false), .val (.bool false), .val (.bool false), .val (.bool false), .val (.bool false), .val (.bool false), .val (.bool false), .val (.bool false), .val (.bool false), .val (.bool false), .val (.bool false), .val (.bool false), .val (.bool false), .val (.bool false), .val (.bool false), .val (.bool false), .val (.bool false), .val (.bool false), .val (.bool false), .val (.bool false), .val (.bool false), .val (.bool false), .val (.bool false), .val (.bool false), .val (.bool false), .val (.bool false), .val (.bool false), .val (.bool false), .val (.bool false), .val (.bool false), .val (.bool false), .val (.bool false), .val (.bool false), .val (.bool false), .val (.bool false), .val (.bool false), .val (.bool false), .val (.bool false), .val (.bool false), .val (.bool false), .val (.bool false), .val (.bool false), .val (.bool false), .val (.bool false), .val (.bool false), .val (.bool false), .val (.bool false), .val (.bool false), .val (.bool false), .val (.bool false), .val (.bool false), .val (.bool false), .val (.bool false), .val (.bool false), .val (.bool false), .val (.bool false), .val (.bool false), .val (.bool false), .val (.bool false), .val (.bool false), .val (.bool false), .val (.bool false), .val (.bool false), .val (.bool false), .val (.bool false), .val (.bool false), .val (.bool false), .val (.bool false), .val (.bool false), .val (.bool false), .val (.bool false), .val (.bool false), .val (.bool false), .val (.bool false), .val (.bool false), .val (.bool false), .val (.bool false), .val (.bool false), .val (.bool false), .val (.bool false), .val (.bool false), .val (.bool false), .val (.bool false), .val (.bool false), .val (.bool false), .val (.bool false), .val (.bool false), .val (.bool false), .val (.bool false), .val (.bool false), .val (.bool false), .val (.bool false), .val (.bool false), .val (.bool false), .val (.bool false), .val (.bool false), .val (.bool false), .val (.bool false), .val (.bool false), .val (.bool false), .val (.bool false), .val (.bool false), .val (.bool false), .val (.bool false), .val (.bool false), .val (.bool false), .val (.bool false), .val (.bool false), .val (.bool false)]
def gD (l : List Int) : D := .sl false (l.map I)
theorem al_g (m : Nat) : ((rc pg (m + 30)).fn 63 [dl, gD []] .empty).map (fun p => p.1) = some (.ret (.val (.bool true))) := by kernel_rfl
theorem al_g0 (m : Nat) : ((rc pg (m + 30)).fn 63 [dl, gD [0]] .empty).map (fun p => p.1) = some (.ret (.val (.bool true))) := by kernel_rfl
theorem al_g00 (m : Nat) : ((rc pg (m + 30)).fn 63 [dl, gD [0, 0]] .empty).map (fun p => p.1) = some (.ret (.val (.bool false))) := by kernel_rfl
theorem al_g01 (m : Nat) : ((rc pg (m + 30)).fn 63 [dl, gD [0, 1]] .empty).map (fun p => p.1) = some (.ret (.val (.bool true))) := by kernel_rfl
theorem al_g010 (m : Nat) : ((rc pg (m + 30)).fn 63 [dl, gD [0, 1, 0]] .empty).map (fun p => p.1) = some (.ret (.val (.bool true))) := by kernel_rfl
theorem al_g0100 (m : Nat) : ((rc pg (m + 30)).fn 63 [dl, gD [0, 1, 0, 0]] .empty).map (fun p => p.1) = some (.ret (.val (.bool false))) := by kernel_rfl
theorem al_g0101 (m : Nat) : ((rc pg (m + 30)).fn 63 [dl, gD [0, 1, 0, 1]] .empty).map (fun p => p.1) = some (.ret (.val (.bool true))) := by kernel_rfl
theorem al_g0102 (m : Nat) : ((rc pg (m + 30)).fn 63 [dl, gD [0, 1, 0, 2]] .empty).map (fun p => p.1) = some (.ret (.val (.bool true))) := by kernel_rfl
theorem al_g011 (m : Nat) : ((rc pg (m + 30)).fn 63 [dl, gD [0, 1, 1]] .empty).map (fun p => p.1) = some (.ret (.val (.bool true))) := by kernel_rfl
theorem al_g0110 (m : Nat) : ((rc pg (m + 30)).fn 63 [dl, gD [0, 1, 1, 0]] .empty).map (fun p => p.1) = some (.ret (.val (.bool false))) := by kernel_rfl
theorem al_g0111 (m : Nat) : ((rc pg (m + 30)).fn 63 [dl, gD [0, 1, 1, 1]] .empty).map (fun p => p.1) = some (.ret (.val (.bool false))) := by kernel_rfl
theorem al_g0112 (m : Nat) : ((rc pg (m + 30)).fn 63 [dl, gD [0, 1, 1, 2]] .empty).map (fun p => p.1) = some (.ret (.val (.bool true))) := by kernel_rfl
theorem al_g012 (m : Nat) : ((rc pg (m + 30)).fn 63 [dl, gD [0, 1, 2]] .empty).map (fun p => p.1) = some (.ret (.val (.bool true))) := by kernel_rfl
theorem al_g0120 (m : Nat) : ((rc pg (m + 30)).fn 63 [dl, gD [0, 1, 2, 0]] .empty).map (fun p => p.1) = some (.ret (.val (.bool true))) := by kernel_rfl
theorem al_g0121 (m : Nat) : ((rc pg (m + 30)).fn 63 [dl, gD [0, 1, 2, 1]] .empty).map (fun p => p.1) = some (.ret (.val (.bool true))) := by kernel_rfl
theorem al_g0122 (m : Nat) : ((rc pg (m + 30)).fn 63 [dl, gD [0, 1, 2, 2]] .empty).map (fun p => p.1) = some (.ret (.val (.bool false))) := by kernel_rfl
theorem al_g0123 (m : Nat) : ((rc pg (m + 30)).fn 63 [dl, gD [0, 1, 2, 3]] .empty).map (fun p => p.1) = some (.ret (.val (.bool true))) := by kernel_rfl
def tbl : List (FuncId × List D × D) := [(63, [dl, gD []], .val (.bool true)), (63, [dl, gD [0]], .val (.bool true)), (63, [dl, gD [0, 0]], .val (.bool false)), (63, [dl, gD [0, 1]], .val (.bool true)), (63, [dl, gD [0, 1, 0]], .val (.bool true)), (63, [dl, gD [0, 1, 0, 0]], .val (.bool false)), (63, [dl, gD [0, 1, 0, 1]], .val (.bool true)), (63, [dl, gD [0, 1, 0, 2]], .val (.bool true)), (63, [dl, gD [0, 1, 1]], .val (.bool true)), (63, [dl, gD [0, 1, 1, 0]], .val (.bool false)), (63, [dl, gD [0, 1, 1, 1]], .val (.bool false)), (63, [dl, gD [0, 1, 1, 2]], .val (.bool true)), (63, [dl, gD [0, 1, 2]], .val (.bool true)), (63, [dl, gD [0, 1, 2, 0]], .val (.bool true)), (63, [dl, gD [0, 1, 2, 1]], .val (.bool true)), (63, [dl, gD [0, 1, 2, 2]], .val (.bool false)), (63, [dl, gD [0, 1, 2, 3]], .val (.bool true))]
theorem tbl_ok (n : Nat) (hn : 30 ≤ n) : ∀ e, e ∈ tbl → ((rc pg n).fn e.1 e.2.1 .empty).map (fun p => p.1) = some (.ret e.2.2) := by
  obtain ⟨m, rfl⟩ := more_of hn
  intro e he
  simp only [tbl, List.mem_cons, List.not_mem_nil, or_false] at he
  rcases he with rfl | rfl | rfl | rfl | rfl | rfl | rfl | rfl | rfl | rfl | rfl | rfl | rfl | rfl | rfl | rfl | rfl
  · exact al_g m
  · exact al_g0 m
  · exact al_g00 m
  · exact al_g01 m
  · exact al_g010 m
  · exact al_g0100 m
  · exact al_g0101 m
  · exact al_g0102 m
  · exact al_g011 m
  · exact al_g0110 m
  · exact al_g0111 m
  · exact al_g0112 m
  · exact al_g012 m
  · exact al_g0120 m
  · exact al_g0121 m
  · exact al_g0122 m
  · exact al_g0123 m
end Go.Proofs.YtnfhgnbniajhoaaDoor
