/-
  The calls with which every law begins: a contract that the claimed proofs use.
-/
import Derived.Test.YtlbhbjcimbgffaaDoorSizes
namespace Go.Proofs.YtlbhbjcimbgffaaDoor
open Go.RowKit

theorem class_c (w : World) (hT : Tab w) : Calls Tryd.prog 8 #[.int .i64 130] w fun e w' => e = .returned (.tuple #[.int .i64 8, .bool true]) ∧ w = w' :=
  have e : first 130 1 = 8 := by decide +kernel
  have := class_any 130 w hT
  by rw [e] at this; exact this
theorem aligned_c (w : World) (hT : Tab w) : Calls Tryd.prog 10 #[.int .i64 130, .int .i64 64] w fun e w' => e = .returned (.tuple #[.int .i64 9, .bool true]) ∧ w = w' :=
  have e : ans 130 64 = 9 := by decide +kernel
  have := aligned_any 130 64 w hT
  by rw [e] at this; exact this
theorem size_c1 (w : World) (hT : Tab w) : Calls Tryd.prog 14 #[.int .i64 8] w fun e w' => e = .returned (.int .i64 160) ∧ w = w' :=
  have e : sizeOf' 8 = 160 := by decide +kernel
  e ▸ size_any 8 w hT
theorem size_c2 (w : World) (hT : Tab w) : Calls Tryd.prog 14 #[.int .i64 16] w fun e w' => e = .returned (.int .i64 0) ∧ w = w' :=
  have e : sizeOf' 16 = 0 := by decide +kernel
  e ▸ size_any 16 w hT
theorem slots_c (w : World) (hT : Tab w) : Calls Tryd.prog 15 #[.int .i64 8] w fun e w' => e = .returned (.int .i64 6) ∧ w = w' :=
  have e : slotsOf 8 = 6 := by decide +kernel
  e ▸ slots_any 8 w hT

theorem alive_any (w : World) (hT : Tab w) : Calls Tryd.prog 6 #[] w fun e w' => e = .returned (.bool true) ∧ w' = w.alloc (.cells row 33) := by
  have HT := Lib.hid hT
  clear hT
  go_enter Tryd.func6, Tryd.ntmps6
  go_wp2_with fail
  refine (class_c _ HT.out).mono ?_
  rintro e w' ⟨rfl, rfl⟩
  go_wp2_with fail
  refine (aligned_c _ HT.out).mono ?_
  rintro e w' ⟨rfl, rfl⟩
  go_wp2_with fail
  refine (size_c1 _ HT.out).mono ?_
  rintro e w' ⟨rfl, rfl⟩
  go_wp2_with fail
  refine (slots_c _ HT.out).mono ?_
  rintro e w' ⟨rfl, rfl⟩
  go_wp2_with fail
  refine (size_c2 _ HT.out).mono ?_
  rintro e w' ⟨rfl, rfl⟩
  go_wp2_with fail
  refine (sizes_any _ HT.out).mono ?_
  rintro e w' ⟨rfl, rfl⟩
  go_wp2
  go_ret
  exact ⟨rfl, rfl⟩

end Go.Proofs.YtlbhbjcimbgffaaDoor
