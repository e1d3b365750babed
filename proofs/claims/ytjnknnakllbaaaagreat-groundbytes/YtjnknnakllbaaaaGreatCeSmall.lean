/-
  What the small functions do: contracts that the claimed proofs use.
-/
import Derived.Test.YtjnknnakllbaaaaGreatCeMem
namespace Go.Proofs.YtjnknnakllbaaaaGreat.Ce
set_option maxRecDepth 100000
open Go.RowKit

/-- Are so many bytes from an address on within so many? -/
def hasB (L : Nat) (s n : Int) : Bool := decide (0 ≤ s ∧ 0 ≤ n ∧ s + n ≤ L)
theorem hasB_iff {L : Nat} {s n : Int} : hasB L s n = true ↔ 0 ≤ s ∧ 0 ≤ n ∧ s + n ≤ L := by simp [hasB]
theorem hasB_not {L : Nat} {s n : Int} : hasB L s n = false ↔ ¬ (0 ≤ s ∧ 0 ≤ n ∧ s + n ≤ L) := by simp only [hasB, decide_eq_false_iff_not]
def widthB (n : Int) : Bool := decide (n = 1 ∨ n = 2 ∨ n = 4 ∨ n = 8)
theorem widthB_iff {n : Int} : widthB n = true ↔ n = 1 ∨ n = 2 ∨ n = 4 ∨ n = 8 := by simp [widthB]

theorem has_any (q g L : Nat) (s n : Int) (w : World) (hc : w.cell? ⟨q, 0, none⟩ = some (.slice (some ⟨g, 0, none⟩) L L)) (hL : L ≤ 1048576) (hs : s ≤ 9223372036854775807) :
    Calls Tryz.prog 70 #[.pointer (some ⟨q, 0, none⟩), .int .i64 s, .int .i64 n] w fun e w' => e = .returned (.bool (hasB L s n)) ∧ w = w' := by
  by_cases h0 : 0 ≤ s
  · by_cases h1 : 0 ≤ n
    · go_enter Tryz.func70, Tryz.ntmps70
      go_wp2
      go_ret
      exact ⟨ret_b (by unfold hasB; rw [decide_eq_decide]; omega), rfl⟩
    · have hd : decide (0 ≤ n) = false := by simpa using h1
      go_enter Tryz.func70, Tryz.ntmps70
      go_wp2
      go_ret
      exact ⟨ret_b (by unfold hasB; symm; rw [decide_eq_false_iff_not]; omega), rfl⟩
  · have hd : decide (0 ≤ s) = false := by simpa using h0
    go_enter Tryz.func70, Tryz.ntmps70
    go_wp2
    go_ret
    exact ⟨ret_b (by unfold hasB; symm; rw [decide_eq_false_iff_not]; omega), rfl⟩
/-- cells.New. -/
theorem new_yes (n : Nat) (hn : n ≤ 1048576) (w : World) :
    Calls Tryz.prog 44 #[.int .i64 (n : Int)] w fun e w' => e = .returned (.tuple #[.pointer (some ⟨w.heap.size + 1, 0, none⟩), .int .i64 0]) ∧
      w' = (w.alloc (.cells (madeCells #[.int .u8 0] n) 5)).alloc (.cells #[.slice (some ⟨w.heap.size, 0, none⟩) n n] 115) := by
  have hmk := make_bytes n hn
  go_enter Tryz.func44, Tryz.ntmps44
  go_wp2
  go_ret2
  exact ⟨rfl, rfl⟩
theorem new_no (n : Int) (w : World) (h : n < 0 ∨ 1048576 < n) :
    Calls Tryz.prog 44 #[.int .i64 n] w fun e w' => e = .returned (.tuple #[.pointer none, .int .i64 11]) ∧ w = w' := by
  rcases h with h | h
  · have hd : decide (n < 0) = true := by simpa using h
    go_enter Tryz.func44, Tryz.ntmps44
    go_wp2
    go_ret2
    exact ⟨rfl, rfl⟩
  · have hd : decide (n < 0) = false := by simp; omega
    have hd : decide (1048576 < n) = true := by simpa using h
    go_enter Tryz.func44, Tryz.ntmps44
    go_wp2
    go_ret2
    exact ⟨rfl, rfl⟩
theorem len_any (q g L : Nat) (w : World) (hc : w.cell? ⟨q, 0, none⟩ = some (.slice (some ⟨g, 0, none⟩) L L)) :
    Calls Tryz.prog 32 #[.pointer (some ⟨q, 0, none⟩)] w fun e w' => e = .returned (.int .i64 (L : Int)) ∧ w = w' := by
  go_enter Tryz.func32, Tryz.ntmps32
  go_wp2
  go_ret
  exact ⟨rfl, rfl⟩

end Go.Proofs.YtjnknnakllbaaaaGreat.Ce
