/-
  What the small functions do: contracts that the claimed proofs use.
-/
import Derived.Test.YtaelfgdiboekpaaDoorCeMem
namespace Go.Proofs.YtaelfgdiboekpaaDoor.Ce
set_option maxRecDepth 100000
open Go.RowKit

/-- Are so many bytes from an address on within so many? -/
def hasB (L : Nat) (s n : Int) : Bool := decide (0 ≤ s ∧ 0 ≤ n ∧ s + n ≤ L)
theorem hasB_iff {L : Nat} {s n : Int} : hasB L s n = true ↔ 0 ≤ s ∧ 0 ≤ n ∧ s + n ≤ L := by simp [hasB]
theorem hasB_not {L : Nat} {s n : Int} : hasB L s n = false ↔ ¬ (0 ≤ s ∧ 0 ≤ n ∧ s + n ≤ L) := by simp only [hasB, decide_eq_false_iff_not]
def widthB (n : Int) : Bool := decide (n = 1 ∨ n = 2 ∨ n = 4 ∨ n = 8)
theorem widthB_iff {n : Int} : widthB n = true ↔ n = 1 ∨ n = 2 ∨ n = 4 ∨ n = 8 := by simp [widthB]

theorem isWidth_any (n : Int) (w : World) : Calls Tryd.prog 83 #[.int .i64 n] w fun e w' => e = .returned (.bool (widthB n)) ∧ w = w' := by
  by_cases h : n = 1 ∨ n = 2 ∨ n = 4 ∨ n = 8
  · rcases h with rfl | rfl | rfl | rfl <;>
    · go_enter Tryd.func83, Tryd.ntmps83
      go_wp2
      go_ret
      exact ⟨rfl, rfl⟩
  · have h1 : (n == 1) = false := by simp; omega
    have h2 : (n == 2) = false := by simp; omega
    have h4 : (n == 4) = false := by simp; omega
    have h8 : (n == 8) = false := by simp; omega
    have HN := Lib.hid h
    clear h
    go_enter Tryd.func83, Tryd.ntmps83
    go_wp2
    go_ret
    exact ⟨ret_b (by unfold widthB; symm; rw [decide_eq_false_iff_not]; exact HN.out), rfl⟩
theorem width_any (n : Int) (w : World) : Calls Tryd.prog 109 #[.int .i64 n] w fun e w' => e = .returned (.bool (widthB n)) ∧ w = w' := by
  by_cases h : n = 1 ∨ n = 2 ∨ n = 4 ∨ n = 8
  · rcases h with rfl | rfl | rfl | rfl <;>
    · go_enter Tryd.func109, Tryd.ntmps109
      go_wp2
      go_ret
      exact ⟨rfl, rfl⟩
  · have h1 : (n == 1) = false := by simp; omega
    have h2 : (n == 2) = false := by simp; omega
    have h4 : (n == 4) = false := by simp; omega
    have h8 : (n == 8) = false := by simp; omega
    have HN := Lib.hid h
    clear h
    go_enter Tryd.func109, Tryd.ntmps109
    go_wp2
    go_ret
    exact ⟨ret_b (by unfold widthB; symm; rw [decide_eq_false_iff_not]; exact HN.out), rfl⟩

theorem has_any (q g L : Nat) (s n : Int) (w : World) (hc : w.cell? ⟨q, 0, none⟩ = some (.slice (some ⟨g, 0, none⟩) L L)) (hL : L ≤ 1048576) (hs : s ≤ 9223372036854775807) :
    Calls Tryd.prog 61 #[.pointer (some ⟨q, 0, none⟩), .int .i64 s, .int .i64 n] w fun e w' => e = .returned (.bool (hasB L s n)) ∧ w = w' := by
  by_cases h0 : 0 ≤ s
  · by_cases h1 : 0 ≤ n
    · go_enter Tryd.func61, Tryd.ntmps61
      go_wp2
      go_ret
      exact ⟨ret_b (by unfold hasB; rw [decide_eq_decide]; omega), rfl⟩
    · have hd : decide (0 ≤ n) = false := by simpa using h1
      go_enter Tryd.func61, Tryd.ntmps61
      go_wp2
      go_ret
      exact ⟨ret_b (by unfold hasB; symm; rw [decide_eq_false_iff_not]; omega), rfl⟩
  · have hd : decide (0 ≤ s) = false := by simpa using h0
    go_enter Tryd.func61, Tryd.ntmps61
    go_wp2
    go_ret
    exact ⟨ret_b (by unfold hasB; symm; rw [decide_eq_false_iff_not]; omega), rfl⟩
theorem in_any (L : Nat) (s n : Int) (w : World) (hL : L ≤ 1048576) (hs : s ≤ 9223372036854775807) :
    Calls Tryd.prog 105 #[.int .i64 (L : Int), .int .i64 s, .int .i64 n] w fun e w' => e = .returned (.bool (hasB L s n)) ∧ w = w' := by
  by_cases h0 : 0 ≤ n
  · by_cases h1 : 0 ≤ s
    · by_cases h2 : s ≤ L
      · go_enter Tryd.func105, Tryd.ntmps105
        go_wp2
        go_ret
        exact ⟨ret_b (by unfold hasB; rw [decide_eq_decide]; omega), rfl⟩
      · have hd : decide (s ≤ (L : Int)) = false := by simpa using h2
        go_enter Tryd.func105, Tryd.ntmps105
        go_wp2
        go_ret
        exact ⟨ret_b (by unfold hasB; symm; rw [decide_eq_false_iff_not]; omega), rfl⟩
    · have hd : decide (0 ≤ s) = false := by simpa using h1
      go_enter Tryd.func105, Tryd.ntmps105
      go_wp2
      go_ret
      exact ⟨ret_b (by unfold hasB; symm; rw [decide_eq_false_iff_not]; omega), rfl⟩
  · have hd : decide (0 ≤ n) = false := by simpa using h0
    go_enter Tryd.func105, Tryd.ntmps105
    go_wp2
    go_ret
    exact ⟨ret_b (by unfold hasB; symm; rw [decide_eq_false_iff_not]; omega), rfl⟩

/-- cells.New. -/
theorem new_yes (n : Nat) (hn : n ≤ 1048576) (w : World) :
    Calls Tryd.prog 14 #[.int .i64 (n : Int)] w fun e w' => e = .returned (.tuple #[.pointer (some ⟨w.heap.size + 1, 0, none⟩), .int .i64 0]) ∧
      w' = (w.alloc (.cells (madeCells #[.int .u8 0] n) 5)).alloc (.cells #[.slice (some ⟨w.heap.size, 0, none⟩) n n] 98) := by
  have hmk := make_bytes n hn
  go_enter Tryd.func14, Tryd.ntmps14
  go_wp2
  go_ret2
  exact ⟨rfl, rfl⟩
theorem new_no (n : Int) (w : World) (h : n < 0 ∨ 1048576 < n) :
    Calls Tryd.prog 14 #[.int .i64 n] w fun e w' => e = .returned (.tuple #[.pointer none, .int .i64 11]) ∧ w = w' := by
  rcases h with h | h
  · have hd : decide (n < 0) = true := by simpa using h
    go_enter Tryd.func14, Tryd.ntmps14
    go_wp2
    go_ret2
    exact ⟨rfl, rfl⟩
  · have hd : decide (n < 0) = false := by simp; omega
    have hd : decide (1048576 < n) = true := by simpa using h
    go_enter Tryd.func14, Tryd.ntmps14
    go_wp2
    go_ret2
    exact ⟨rfl, rfl⟩
theorem len_any (q g L : Nat) (w : World) (hc : w.cell? ⟨q, 0, none⟩ = some (.slice (some ⟨g, 0, none⟩) L L)) :
    Calls Tryd.prog 62 #[.pointer (some ⟨q, 0, none⟩)] w fun e w' => e = .returned (.int .i64 (L : Int)) ∧ w = w' := by
  go_enter Tryd.func62, Tryd.ntmps62
  go_wp2
  go_ret
  exact ⟨rfl, rfl⟩

end Go.Proofs.YtaelfgdiboekpaaDoor.Ce
