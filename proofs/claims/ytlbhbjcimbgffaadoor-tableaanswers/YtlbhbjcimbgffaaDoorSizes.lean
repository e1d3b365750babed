/-
  What Sizes does, and the reference's Sizes: contracts that the claimed proofs use.
-/
import Derived.Test.YtlbhbjcimbgffaaDoorAligned
namespace Go.Proofs.YtlbhbjcimbgffaaDoor
open Go.RowKit

/-- A list of the sizes, of its own. -/
def Gave (t : TypeId) (w : World) (e : Ending) (w' : World) : Prop := e = .returned (.slice (some ⟨w.heap.size, 0, none⟩) 16 16) ∧ w' = w.alloc (.cells row t)

theorem store_row (w : World) : (storeCells ⟨w.heap.size, 0, none⟩ row.toList).run Tryd.prog (w.alloc (.cells #[.int .i64 0, .int .i64 0, .int .i64 0, .int .i64 0, .int .i64 0, .int .i64 0, .int .i64 0, .int .i64 0, .int .i64 0, .int .i64 0, .int .i64 0, .int .i64 0, .int .i64 0, .int .i64 0, .int .i64 0, .int .i64 0] 33)) = .ok () (w.alloc (.cells row 33)) :=
  run_storeCells_new (P := Tryd.prog) w 33 _ row (by kernel_rfl) rfl (by decide +kernel)
theorem sizes_any (w : World) (hT : Tab w) : Calls Tryd.prog 12 #[] w (Gave 33 w) := by
  obtain ⟨t, fr, hT⟩ := hT
  have HT := Lib.hid hT
  clear hT
  go_enter Tryd.func12, Tryd.ntmps12
  go_wp2_with (refine wpList_load_row rfl 33 (.global 0) rfl 0 rfl t row fr _ HT.out Tryd.underlying33 rfl (by kernel_rfl) ?_)
  rw [store_row w]
  go_wp2
  go_ret
  exact ⟨rfl, rfl⟩
theorem rsizes_any (w : World) : Calls Tryd.prog 7 #[] w (Gave 3 w) := by
  go_enter Tryd.func7, Tryd.ntmps7
  go_wp2
  go_ret
  exact ⟨rfl, rfl⟩

/-! ### What lies in a list of the sizes -/
theorem gave_cell {w' : World} {g : Nat} {t : TypeId} (h : w'.heap[g]? = some (.cells row t (0, 0))) (j : Nat) (hj : j < 16) : w'.cell? ⟨g, j, none⟩ = some (.int .i64 (sz j)) := by
  rw [cell_of_row w' g j row t (0, 0) h]; exact row_at j hj
theorem gave_new (w : World) (t : TypeId) : (w.alloc (.cells row t)).heap[w.heap.size]? = some (.cells row t (0, 0)) := heap_alloc_last w _
theorem up_alloc {w W : World} (h : Below w.heap.size w W) (o : Obj) : Below w.heap.size w (W.alloc o) := h.alloc h.size o
theorem up_trans {w W w2 : World} (h : Below w.heap.size w W) (h2 : Below W.heap.size W w2) : Below w.heap.size w w2 := h.trans (h2.mono h.size)
theorem new_below (w : World) (o : Obj) : Below w.heap.size w (w.alloc o) := up_alloc (Below.refl _ w) o

end Go.Proofs.YtlbhbjcimbgffaaDoor
