/-
  What the two tables are, as the walk meets them, and what Size and Slots of both layouts do: contracts that the claimed proofs use.
-/
import Derived.Test.YtaelfgdiboekpaaDoorTbSmall
import Derived.Deep.WholeRow
namespace Go.Proofs.YtaelfgdiboekpaaDoor.Tb
set_option maxRecDepth 100000
open Go.RowKit

/-! ### The tables -/
/-- A table's numbers, as cells. -/
def row (v : Int) : Array Value := ((szs v).map fun z => Value.int .i64 z).toArray
theorem row_at (v : Int) (j : Nat) (hj : j < cnt v) : (row v)[j]? = some (.int .i64 (sz v j)) := by
  unfold row sz
  rw [List.getElem?_toArray, List.getElem?_map, List.getD_eq_getElem?_getD, List.getElem?_eq_getElem (by exact hj)]; rfl
/-- The tables lie in their blocks. -/
def Tab (w : World) : Prop := (∃ t fr, w.heap[0]? = some (.cells (row 0) t fr)) ∧ ∃ t fr, w.heap[1]? = some (.cells (row 1) t fr)
theorem Tab.lt {w : World} (h : Tab w) : 1 < w.heap.size := by
  obtain ⟨_, _, _, h⟩ := h; exact (Array.getElem?_eq_some_iff.1 h).1
theorem Tab.old {w : World} (h : Tab w) (j : Nat) (hj : j < 16) : w.cell? ⟨0, j, none⟩ = some (.int .i64 (sz 0 j)) := by
  obtain ⟨⟨t, fr, h⟩, _⟩ := h
  rw [cell_of_row w 0 j (row 0) t fr h]; exact row_at 0 j hj
theorem Tab.new {w : World} (h : Tab w) (j : Nat) (hj : j < 12) : w.cell? ⟨1, j, none⟩ = some (.int .i64 (sz 1 j)) := by
  obtain ⟨_, t, fr, h⟩ := h
  rw [cell_of_row w 1 j (row 1) t fr h]; exact row_at 1 j hj
theorem Tab.below {w w' : World} (h : Tab w) (hb : Below w.heap.size w w') : Tab w' := by
  have hl := h.lt
  obtain ⟨⟨t, fr, h⟩, t2, fr2, h2⟩ := h
  exact ⟨⟨t, fr, (hb.block 0 (by omega)).trans h⟩, t2, fr2, (hb.block 1 hl).trans h2⟩
theorem old_index (k : Nat) (hk : k < 16) (w : World) : (Instr.index 138 (.agg (row 0)) (.int .i64 (k : Int))).run Tryd.prog w = .ok (.int .i64 (sz 0 k)) w := by
  rcases (by omega : k = 0 ∨ k = 1 ∨ k = 2 ∨ k = 3 ∨ k = 4 ∨ k = 5 ∨ k = 6 ∨ k = 7 ∨ k = 8 ∨ k = 9 ∨ k = 10 ∨ k = 11 ∨ k = 12 ∨ k = 13 ∨ k = 14 ∨ k = 15) with rfl | rfl | rfl | rfl | rfl | rfl | rfl | rfl | rfl | rfl | rfl | rfl | rfl | rfl | rfl | rfl <;> kernel_rfl
theorem new_index (k : Nat) (hk : k < 12) (w : World) : (Instr.index 139 (.agg (row 1)) (.int .i64 (k : Int))).run Tryd.prog w = .ok (.int .i64 (sz 1 k)) w := by
  rcases (by omega : k = 0 ∨ k = 1 ∨ k = 2 ∨ k = 3 ∨ k = 4 ∨ k = 5 ∨ k = 6 ∨ k = 7 ∨ k = 8 ∨ k = 9 ∨ k = 10 ∨ k = 11) with rfl | rfl | rfl | rfl | rfl | rfl | rfl | rfl | rfl | rfl | rfl | rfl <;> kernel_rfl

/-! ### Size -/
/-- tablea.Size. -/
theorem asize_no (c : Int) (w : World) (h : classB c = false) : Calls Tryd.prog 98 #[.int .i64 c] w fun e w' => e = .returned (.int .i64 (sizeOf' 0 c)) ∧ w = w' := by
  have H := Lib.hid (sizeOf_no h)
  go_enter Tryd.func98, Tryd.ntmps98
  go_wp2_with (go_at_call 107; refine (isClass_any _ _).mono ?_; rintro e w' ⟨rfl, rfl⟩)
  go_ret
  exact ⟨ret_i H.out.symm, rfl⟩
theorem asize_yes (k : Nat) (w : World) (hk : k < 16) (hT : Tab w) : Calls Tryd.prog 98 #[.int .i64 (k : Int)] w fun e w' => e = .returned (.int .i64 (sizeOf' 0 (k : Int))) ∧ w = w' := by
  have h : classB (k : Int) = true := classB_iff.2 (by omega)
  have H := Lib.hid (sizeOf_nat 0 k)
  have hc := hT.old k hk
  have k1 : (0 : Int) ≤ (k : Int) := by omega
  have k2 : (k : Int) < 16 := by omega
  generalize sz 0 k = s at *
  clear hT
  go_enter Tryd.func98, Tryd.ntmps98
  go_wp2_with (go_at_call 107; refine (isClass_any _ _).mono ?_; rintro e w' ⟨rfl, rfl⟩)
  go_ret
  exact ⟨ret_i H.out.symm, rfl⟩
theorem asize_any (c : Int) (w : World) (hT : Tab w) : Calls Tryd.prog 98 #[.int .i64 c] w fun e w' => e = .returned (.int .i64 (sizeOf' 0 c)) ∧ w = w' := by
  cases h : classB c
  · exact asize_no c w h
  · obtain ⟨h0, h1⟩ := classB_iff.1 h
    obtain ⟨k, rfl⟩ := Int.eq_ofNat_of_zero_le h0
    exact asize_yes k w (by omega) hT

/-- tableb.newSize. -/
theorem bsize_any (c : Int) (w : World) (hT : Tab w) : Calls Tryd.prog 99 #[.int .i64 c] w fun e w' => e = .returned (.int .i64 (sizeOf' 1 c)) ∧ w = w' := by
  by_cases h0 : c < 0
  · have H := Lib.hid (sizeOf_neg (v := 1) (c := c) (by omega))
    clear hT
    go_enter Tryd.func99, Tryd.ntmps99
    go_wp2
    go_ret
    exact ⟨ret_i H.out.symm, rfl⟩
  · obtain ⟨k, rfl⟩ := Int.eq_ofNat_of_zero_le (by omega : 0 ≤ c)
    have k1 : (0 : Int) ≤ (k : Int) := by omega
    by_cases hk : k < 12
    · have H := Lib.hid (sizeOf_nat 1 k)
      have hc := hT.new k hk
      have k2 : (k : Int) < 12 := by omega
      generalize sz 1 k = s at *
      clear hT h0
      go_enter Tryd.func99, Tryd.ntmps99
      go_wp2
      go_ret
      exact ⟨ret_i H.out.symm, rfl⟩
    · have H := Lib.hid (sizeOf_beyond (v := 1) (c := k) (by rw [cnt_1]; omega))
      have k2 : (12 : Int) ≤ (k : Int) := by omega
      clear hT h0
      go_enter Tryd.func99, Tryd.ntmps99
      go_wp2
      go_ret
      exact ⟨ret_i H.out.symm, rfl⟩

/-- tableb.Size. -/
theorem size_any (v c : Int) (w : World) (hT : Tab w) : Calls Tryd.prog 77 #[.int .i64 v, .int .i64 c] w fun e w' => e = .returned (.int .i64 (sizeOf' v c)) ∧ w = w' := by
  rcases layout v with rfl | rfl | ⟨h0, h1⟩
  · have H := Lib.hid (asize_any c w hT)
    clear hT
    go_enter Tryd.func77, Tryd.ntmps77
    go_wp2_with (go_at_call 98; refine H.out.mono ?_; rintro e w' ⟨rfl, rfl⟩)
    go_ret
    exact ⟨rfl, rfl⟩
  · have H := Lib.hid (bsize_any c w hT)
    clear hT
    go_enter Tryd.func77, Tryd.ntmps77
    go_wp2_with (go_at_call 99; refine H.out.mono ?_; rintro e w' ⟨rfl, rfl⟩)
    go_ret
    exact ⟨rfl, rfl⟩
  · have H := Lib.hid (sizeOf_none (c := c) h0 h1)
    have b0 : (v == 0) = false := by simpa using h0
    have b1 : (v == 1) = false := by simpa using h1
    clear hT h0 h1
    go_enter Tryd.func77, Tryd.ntmps77
    go_wp2
    go_ret
    exact ⟨ret_i H.out.symm, rfl⟩

/-! ### Slots -/
/-- tableb.Slots. -/
theorem slots_any (v c : Int) (w : World) (hT : Tab w) : Calls Tryd.prog 76 #[.int .i64 v, .int .i64 c] w fun e w' => e = .returned (.int .i64 (slotsOf v c)) ∧ w = w' := by
  have H := size_any v c w hT
  rcases sizeOf_bd v c with hz | ⟨k, hk, ec, es, h0, h1⟩
  · have HZ := Lib.hid (slotsOf_zero hz)
    rw [hz] at H
    replace H := Lib.hid H
    clear hT hz
    go_enter Tryd.func76, Tryd.ntmps76
    go_wp2_with (go_at_call 77; refine H.out.mono ?_; rintro e w' ⟨rfl, rfl⟩)
    go_ret
    exact ⟨ret_i HZ.out.symm, rfl⟩
  · clear ec es hk
    have HZ := slotsOf_some (v := v) (c := c) (by omega)
    generalize sizeOf' v c = s at *
    have z : (s == 0) = false := by simp; omega
    replace HZ := Lib.hid HZ
    replace H := Lib.hid H
    clear hT
    go_enter Tryd.func76, Tryd.ntmps76
    go_wp2_with (go_at_call 77; refine H.out.mono ?_; rintro e w' ⟨rfl, rfl⟩)
    go_ret
    exact ⟨ret_i HZ.out.symm, rfl⟩

end Go.Proofs.YtaelfgdiboekpaaDoor.Tb
