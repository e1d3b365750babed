/-
  What the table is, as the walk meets it, and what Size and Slots do: contracts that the claimed proofs use.
-/
import Derived.Test.YtiemgeflkmbfoaaDoorTaSmall
import Derived.Deep.WholeRow
namespace Go.Proofs.YtiemgeflkmbfoaaDoor.Ta
set_option maxRecDepth 100000
open Go.RowKit

/-! ### The table -/
/-- The table's numbers, as cells. -/
def row : Array Value := (szs.map fun z => Value.int .i64 z).toArray
theorem row_at : ∀ j, j < 16 → row[j]? = some (.int .i64 (sz j)) := by
  intro j hj
  unfold row sz
  rw [List.getElem?_toArray, List.getElem?_map, List.getD_eq_getElem?_getD, List.getElem?_eq_getElem (by exact hj)]; rfl
theorem row_size : row.size = 16 := rfl
/-- The table lies in its block. -/
def Tab (w : World) : Prop := ∃ t fr, w.heap[0]? = some (.cells row t fr)
theorem Tab.lt {w : World} (h : Tab w) : 0 < w.heap.size := by
  obtain ⟨_, _, h⟩ := h; exact (Array.getElem?_eq_some_iff.1 h).1
theorem Tab.cell {w : World} (h : Tab w) (j : Nat) (hj : j < 16) : w.cell? ⟨0, j, none⟩ = some (.int .i64 (sz j)) := by
  obtain ⟨t, fr, h⟩ := h
  rw [cell_of_row w 0 j row t fr h]; exact row_at j hj
theorem Tab.below {w w' : World} (h : Tab w) (hb : Below w.heap.size w w') : Tab w' := by
  have hl := h.lt
  obtain ⟨t, fr, h⟩ := h
  exact ⟨t, fr, (hb.block 0 hl).trans h⟩
theorem row_index (k : Nat) (hk : k < 16) (w : World) : (Instr.index 78 (.agg row) (.int .i64 (k : Int))).run Tryd.prog w = .ok (.int .i64 (sz k)) w := by
  rcases (by omega : k = 0 ∨ k = 1 ∨ k = 2 ∨ k = 3 ∨ k = 4 ∨ k = 5 ∨ k = 6 ∨ k = 7 ∨ k = 8 ∨ k = 9 ∨ k = 10 ∨ k = 11 ∨ k = 12 ∨ k = 13 ∨ k = 14 ∨ k = 15) with rfl | rfl | rfl | rfl | rfl | rfl | rfl | rfl | rfl | rfl | rfl | rfl | rfl | rfl | rfl | rfl <;> kernel_rfl

/-- tablea.Size. -/
theorem size_no (c : Int) (w : World) (h : classB c = false) : Calls Tryd.prog 34 #[.int .i64 c] w fun e w' => e = .returned (.int .i64 (sizeOf' c)) ∧ w = w' := by
  have H := Lib.hid (sizeOf_no h)
  go_enter Tryd.func34, Tryd.ntmps34
  go_wp2_with (go_at_call 55; refine (isClass_any _ _).mono ?_; rintro e w' ⟨rfl, rfl⟩)
  go_ret
  exact ⟨ret_i H.out.symm, rfl⟩
theorem size_yes (k : Nat) (w : World) (hk : k < 16) (hT : Tab w) : Calls Tryd.prog 34 #[.int .i64 (k : Int)] w fun e w' => e = .returned (.int .i64 (sizeOf' (k : Int))) ∧ w = w' := by
  have h : classB (k : Int) = true := classB_iff.2 (by omega)
  have H := Lib.hid (sizeOf_nat hk)
  have hc := hT.cell k hk
  have k1 : (0 : Int) ≤ (k : Int) := by omega
  have k2 : (k : Int) < 16 := by omega
  go_enter Tryd.func34, Tryd.ntmps34
  go_wp2_with (go_at_call 55; refine (isClass_any _ _).mono ?_; rintro e w' ⟨rfl, rfl⟩)
  go_ret
  exact ⟨ret_i H.out.symm, rfl⟩
theorem size_any (c : Int) (w : World) (hT : Tab w) : Calls Tryd.prog 34 #[.int .i64 c] w fun e w' => e = .returned (.int .i64 (sizeOf' c)) ∧ w = w' := by
  cases h : classB c
  · exact size_no c w h
  · obtain ⟨h0, h1⟩ := classB_iff.1 h
    obtain ⟨k, rfl⟩ := Int.eq_ofNat_of_zero_le h0
    exact size_yes k w (by omega) hT

/-- tablea.Slots. -/
theorem slots_no (c : Int) (w : World) (h : classB c = false) : Calls Tryd.prog 36 #[.int .i64 c] w fun e w' => e = .returned (.int .i64 (slotsOf c)) ∧ w = w' := by
  have H := Lib.hid (slotsOf_no h)
  go_enter Tryd.func36, Tryd.ntmps36
  go_wp2_with (go_at_call 55; refine (isClass_any _ _).mono ?_; rintro e w' ⟨rfl, rfl⟩)
  go_ret
  exact ⟨ret_i H.out.symm, rfl⟩
theorem slots_yes (k : Nat) (w : World) (hk : k < 16) (hT : Tab w) : Calls Tryd.prog 36 #[.int .i64 (k : Int)] w fun e w' => e = .returned (.int .i64 (slotsOf (k : Int))) ∧ w = w' := by
  have h : classB (k : Int) = true := classB_iff.2 (by omega)
  have H := Lib.hid (slotsOf_nat hk)
  have hc := hT.cell k hk
  obtain ⟨b0, b1⟩ := sz_bd k hk
  have k1 : (0 : Int) ≤ (k : Int) := by omega
  have k2 : (k : Int) < 16 := by omega
  generalize sz k = s at *
  have z : (s == 0) = false := by simp; omega
  go_enter Tryd.func36, Tryd.ntmps36
  go_wp2_with (go_at_call 55; refine (isClass_any _ _).mono ?_; rintro e w' ⟨rfl, rfl⟩)
  go_ret
  exact ⟨ret_i H.out.symm, rfl⟩
theorem slots_any (c : Int) (w : World) (hT : Tab w) : Calls Tryd.prog 36 #[.int .i64 c] w fun e w' => e = .returned (.int .i64 (slotsOf c)) ∧ w = w' := by
  cases h : classB c
  · exact slots_no c w h
  · obtain ⟨h0, h1⟩ := classB_iff.1 h
    obtain ⟨k, rfl⟩ := Int.eq_ofNat_of_zero_le h0
    exact slots_yes k w (by omega) hT

end Go.Proofs.YtiemgeflkmbfoaaDoor.Ta
