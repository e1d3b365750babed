/-
  What Sizes of both layouts does, and the references' Sizes: contracts that the claimed proofs use.
-/
import Derived.Test.YthdjceihbmdneaaDoorAligned
namespace Go.Proofs.YthdjceihbmdneaaDoor
open Go.RowKit

/-! ### Worlds -/
theorem up_alloc {w W : World} (h : Below w.heap.size w W) (o : Obj) : Below w.heap.size w (W.alloc o) := h.alloc h.size o
theorem up_trans {w W w2 : World} (h : Below w.heap.size w W) (h2 : Below W.heap.size W w2) : Below w.heap.size w w2 := h.trans (h2.mono h.size)
theorem new_below (w : World) (o : Obj) : Below w.heap.size w (w.alloc o) := up_alloc (Below.refl _ w) o

/-! ### A list of a layout's sizes -/
/-- At this address lie a layout's sizes (something is said only where there is an element). -/
def Lst (v : Int) (W : World) (p : Option Addr) : Prop := ∀ j, j < cnt v → ∃ g, p = some ⟨g, 0, none⟩ ∧ W.cell? ⟨g, j, none⟩ = some (.int .i64 (sz v j))
theorem Lst.below {v : Int} {w w' : World} {p : Option Addr} (h : Lst v w p) (hb : Below w.heap.size w w') : Lst v w' p := fun j hj => by
  obtain ⟨g, e, hc⟩ := h j hj
  exact ⟨g, e, (hb.cell (p := ⟨g, j, none⟩) (World.block_lt_of_cell? w ⟨g, j, none⟩ hc)).trans hc⟩
theorem Lst.nil {v : Int} (W : World) (p : Option Addr) (h0 : v ≠ 0) (h1 : v ≠ 1) : Lst v W p := fun j hj => by rw [cnt_no h0 h1] at hj; omega
theorem lst_new (v : Int) (w : World) (t : TypeId) : Lst v (w.alloc (.cells (row v) t)) (some ⟨w.heap.size, 0, none⟩) := fun j hj =>
  ⟨w.heap.size, rfl, by rw [cell_of_row _ w.heap.size j (row v) t (0, 0) (heap_alloc_last w _)]; exact row_at v j hj⟩
/-- A list of a layout's sizes is answered, of its own. -/
def Gives (v : Int) (w : World) (e : Ending) (w' : World) : Prop := ∃ p, e = .returned (.slice p (cnt v) (cnt v)) ∧ Lst v w' p ∧ Below w.heap.size w w'
theorem gives_new (v : Int) (n : Nat) (w : World) (t : TypeId) (h : cnt v = n) : Gives v w (.returned (.slice (some ⟨w.heap.size, 0, none⟩) n n)) (w.alloc (.cells (row v) t)) :=
  ⟨_, by rw [h], lst_new v w t, new_below w _⟩
theorem gives_nil (v : Int) (w : World) (h0 : v ≠ 0) (h1 : v ≠ 1) : Gives v w (.returned (.slice none 0 0)) w :=
  ⟨none, by rw [cnt_no h0 h1], Lst.nil w _ h0 h1, Below.refl _ w⟩

/-! ### What answers one -/
theorem store_old (w : World) : (storeCells ⟨w.heap.size, 0, none⟩ (row 0).toList).run Tryd.prog (w.alloc (.cells #[.int .i64 0, .int .i64 0, .int .i64 0, .int .i64 0, .int .i64 0, .int .i64 0, .int .i64 0, .int .i64 0, .int .i64 0, .int .i64 0, .int .i64 0, .int .i64 0, .int .i64 0, .int .i64 0, .int .i64 0, .int .i64 0] 39)) = .ok () (w.alloc (.cells (row 0) 39)) :=
  run_storeCells_new (P := Tryd.prog) w 39 _ (row 0) (by kernel_rfl) rfl (by decide +kernel)
theorem store_new (w : World) : (storeCells ⟨w.heap.size, 0, none⟩ (row 1).toList).run Tryd.prog (w.alloc (.cells #[.int .i64 0, .int .i64 0, .int .i64 0, .int .i64 0, .int .i64 0, .int .i64 0, .int .i64 0, .int .i64 0, .int .i64 0, .int .i64 0, .int .i64 0, .int .i64 0] 38)) = .ok () (w.alloc (.cells (row 1) 38)) :=
  run_storeCells_new (P := Tryd.prog) w 38 _ (row 1) (by kernel_rfl) rfl (by decide +kernel)
/-- tablea.Sizes. -/
theorem asizes_any (w : World) (hT : Tab w) : Calls Tryd.prog 25 #[] w (Gives 0 w) := by
  obtain ⟨⟨t, fr, hT⟩, _⟩ := hT
  have HT := Lib.hid hT
  clear hT
  go_enter Tryd.func25, Tryd.ntmps25
  go_wp2_with (refine wpList_load_row rfl 39 (.global 1) rfl 1 rfl t (row 0) fr _ HT.out Tryd.underlying39 rfl (by kernel_rfl) ?_)
  rw [store_old w]
  go_wp2
  go_ret
  exact gives_new 0 16 w 39 rfl
/-- ref05.Sizes. -/
theorem r5sizes_any (w : World) : Calls Tryd.prog 26 #[] w (Gives 0 w) := by
  go_enter Tryd.func26, Tryd.ntmps26
  go_wp2
  go_ret
  exact gives_new 0 16 w 3 rfl
/-- tableb.Sizes. -/
theorem sizes_any (v : Int) (w : World) (hT : Tab w) : Calls Tryd.prog 15 #[.int .i64 v] w (Gives v w) := by
  rcases layout v with rfl | rfl | ⟨h0, h1⟩
  · have HG := Lib.hid (asizes_any w hT)
    clear hT
    go_enter Tryd.func15, Tryd.ntmps15
    go_wp2_with (go_at_call 25; refine HG.out.mono ?_; rintro e w' ⟨p, rfl, hp, hb⟩)
    go_ret
    exact ⟨p, rfl, hp, hb⟩
  · obtain ⟨_, t, fr, hT⟩ := hT
    have HT := Lib.hid hT
    clear hT
    go_enter Tryd.func15, Tryd.ntmps15
    go_wp2_with (refine wpList_load_row rfl 38 (.global 0) rfl 0 rfl t (row 1) fr _ HT.out Tryd.underlying38 rfl (by kernel_rfl) ?_)
    rw [store_new w]
    go_wp2
    go_ret
    exact gives_new 1 12 w 38 rfl
  · have b0 : (v == 0) = false := by simpa using h0
    have b1 : (v == 1) = false := by simpa using h1
    have HN := Lib.hid (gives_nil v w h0 h1)
    clear h0 h1 hT
    go_enter Tryd.func15, Tryd.ntmps15
    go_wp2
    go_ret
    exact HN.out
/-- ref06.Sizes. -/
theorem rsizes_any (v : Int) (w : World) : Calls Tryd.prog 8 #[.int .i64 v] w (Gives v w) := by
  rcases layout v with rfl | rfl | ⟨h0, h1⟩
  · have HG := Lib.hid (r5sizes_any w)
    go_enter Tryd.func8, Tryd.ntmps8
    go_wp2_with (go_at_call 26; refine HG.out.mono ?_; rintro e w' ⟨p, rfl, hp, hb⟩)
    go_ret
    exact ⟨p, rfl, hp, hb⟩
  · go_enter Tryd.func8, Tryd.ntmps8
    go_wp2
    go_ret
    exact gives_new 1 12 w 3 rfl
  · have b0 : (v == 0) = false := by simpa using h0
    have b1 : (v == 1) = false := by simpa using h1
    have HN := Lib.hid (gives_nil v w h0 h1)
    clear h0 h1
    go_enter Tryd.func8, Tryd.ntmps8
    go_wp2
    go_ret
    exact HN.out

end Go.Proofs.YthdjceihbmdneaaDoor
