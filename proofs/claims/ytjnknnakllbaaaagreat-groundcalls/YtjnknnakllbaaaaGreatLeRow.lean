/-
  How a list of numbers becomes a row: a contract that the claimed proof uses.
-/
import Derived.Test.YtjnknnakllbaaaaGreatLeRef
namespace Go.Proofs.YtjnknnakllbaaaaGreat.Le
set_option maxRecDepth 100000
open Go.RowKit Go.Maps

def rowL (f : Row) : List Value := [.int .i64 (f 0), .int .i64 (f 1), .int .i64 (f 2), .int .i64 (f 3), .int .i64 (f 4), .int .i64 (f 5), .int .i64 (f 6), .int .i64 (f 7)]
def mix (f : Row) (k : Nat) : Row := fun j => if j < k then f j else 0
theorem mix_set (f : Row) {k : Nat} (h : k < 8) : (rowL (mix f k)).set k (.int .i64 (f k)) = rowL (mix f (k + 1)) := by
  rcases (by omega : k = 0 ∨ k = 1 ∨ k = 2 ∨ k = 3 ∨ k = 4 ∨ k = 5 ∨ k = 6 ∨ k = 7) with rfl | rfl | rfl | rfl | rfl | rfl | rfl | rfl <;> rfl
theorem mix_all (f : Row) : rowL (mix f 8) = rowL f := rfl
theorem rowL_at (f : Row) {k : Nat} (h : k < 8) : (rowL f)[k]? = some (.int .i64 (f k)) := by
  rcases (by omega : k = 0 ∨ k = 1 ∨ k = 2 ∨ k = 3 ∨ k = 4 ∨ k = 5 ∨ k = 6 ∨ k = 7) with rfl | rfl | rfl | rfl | rfl | rfl | rfl | rfl <;> rfl
section
variable {B : Nat} {w w' w'' : World} {q b p : Nat} {C : Int} {S : List Row} {f : Row}
theorem rnew_no (C : Int) (w : World) (h : ¬ (0 ≤ C ∧ C ≤ 1099511627776)) : Calls Tryz.prog 47 #[.int .i64 C] w fun e w' => e = .returned (.tuple #[.pointer none, .int .i64 11]) ∧ w = w' := by
  by_cases h0 : C < 0
  · have d0 : decide (C < 0) = true := by simpa using h0
    go_enter Tryz.func47, Tryz.ntmps47
    go_wp2
    go_ret2
    exact ⟨rfl, rfl⟩
  · have d0 : decide (C < 0) = false := by simpa using h0
    have d1 : decide (1099511627776 < C) = true := by simp; omega
    clear h
    go_enter Tryz.func47, Tryz.ntmps47
    go_wp2
    go_ret2
    exact ⟨rfl, rfl⟩
theorem make8 (W : World) : (Instr.makeSlice 58 (.int .i64 8) (.int .i64 8)).run Tryz.prog W = .ok (.slice (some ⟨W.heap.size, 0, none⟩) 8 8) (W.alloc (.cells #[.int .i64 0, .int .i64 0, .int .i64 0, .int .i64 0, .int .i64 0, .int .i64 0, .int .i64 0, .int .i64 0] 3)) := by
  obtain ⟨i, hi, hz, hs, hb⟩ := info_parts int_parts
  have := run_make (P := Tryz.prog) W 58 3 i (.int .i64 0) Tryz.underlying58 hi hz .i64 .i64 8 8 (by omega) (by omega) (by rw [hb]; omega) (by omega)
  rw [hs, show madeCells (Value.int IntKind.i64 0).cells (Int.toNat 8 * 1) = #[.int .i64 0, .int .i64 0, .int .i64 0, .int .i64 0, .int .i64 0, .int .i64 0, .int .i64 0, .int .i64 0] by kernel_rfl] at this
  exact this
theorem rnew_yes (C : Int) (w : World) (h0 : 0 ≤ C) (h1 : C ≤ 1099511627776) (hB : B ≤ w.heap.size) :
    Calls Tryz.prog 47 #[.int .i64 C] w fun e w' => ∃ p, e = .returned (.tuple #[.pointer (some ⟨p, 0, none⟩), .int .i64 0]) ∧ Rf B w' p C [z8] ∧ Below w.heap.size w w' := by
  have d0 : decide (C < 0) = false := by simpa using h0
  have d1 : decide (1099511627776 < C) = false := by simpa using h1
  have hmk := make8
  go_enter Tryz.func47, Tryz.ntmps47
  go_wp2
  go_ret2
  obtain ⟨x, hx⟩ : ∃ x : Obj, x = .cells #[.int .i64 0, .int .i64 0, .int .i64 0, .int .i64 0, .int .i64 0, .int .i64 0, .int .i64 0, .int .i64 0] 3 := ⟨_, rfl⟩
  obtain ⟨y, hy⟩ : ∃ y : Obj, y = .cells #[.slice (some ⟨w.heap.size, 0, none⟩) 8 8] 58 := ⟨_, rfl⟩
  obtain ⟨z, hz⟩ : ∃ z : Obj, z = .cells #[.int .i64 C, .slice (some ⟨w.heap.size + 1, 0, none⟩) 1 1] 105 := ⟨_, rfl⟩
  rw [← hx, ← hy, ← hz]
  have s1 : (w.alloc x).heap.size = w.heap.size + 1 := by simp
  have s2 : ((w.alloc x).alloc y).heap.size = w.heap.size + 1 + 1 := by simp
  have k1 : (w.alloc x).heap[w.heap.size]? = some x := heap_alloc_last w x
  have k2 : ((w.alloc x).alloc y).heap[w.heap.size + 1]? = some y := by have := heap_alloc_last (w.alloc x) y; rwa [s1] at this
  have k3 : (((w.alloc x).alloc y).alloc z).heap[w.heap.size + 1 + 1]? = some z := by have := heap_alloc_last ((w.alloc x).alloc y) z; rwa [s2] at this
  have k1' : (((w.alloc x).alloc y).alloc z).heap[w.heap.size]? = some x := by rw [Below.heap_alloc _ _ _ (by omega), Below.heap_alloc _ _ _ (by omega)]; exact k1
  have k2' : (((w.alloc x).alloc y).alloc z).heap[w.heap.size + 1]? = some y := by rw [Below.heap_alloc _ _ _ (by omega)]; exact k2
  refine ⟨_, rfl, ⟨w.heap.size + 1, 1, [.slice (some ⟨w.heap.size, 0, none⟩) 8 8], ?_, by omega, ?_, fun i hi => ?_⟩, up_alloc (up_alloc (up_alloc (Below.refl _ _) _) _) _⟩
  · unfold Blk; rw [k3, hz]; rfl
  · exact ⟨rfl, .inr ⟨w.heap.size + 1, 1, #[.slice (some ⟨w.heap.size, 0, none⟩) 8 8], rfl, by omega, by rw [k2', hy], by decide, by decide, rfl, rfl⟩⟩
  · obtain rfl : i = 0 := by simp at hi; omega
    refine ⟨_, rfl, w.heap.size, 8, rowL z8, rfl, hB, by unfold Blk; rw [k1', hx]; rfl, fun j hj => rowL_at z8 hj⟩
end
end Go.Proofs.YtjnknnakllbaaaaGreat.Le
