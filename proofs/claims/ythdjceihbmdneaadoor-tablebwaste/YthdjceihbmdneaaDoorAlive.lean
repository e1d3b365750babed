/-
  The calls with which every law begins: a contract that the claimed proofs use.
-/
import Derived.Test.YthdjceihbmdneaaDoorTwin
namespace Go.Proofs.YthdjceihbmdneaaDoor
open Go.RowKit

theorem class_c1 : Same 9 #[.int .i64 1, .int .i64 130] (.tuple #[.int .i64 8, .bool true]) := fun W hW =>
  have e : first 1 130 1 = 8 := by decide +kernel
  have := class_any 1 130 W hW
  by rw [e] at this; exact this
theorem class_c0 : Same 9 #[.int .i64 0, .int .i64 130] (.tuple #[.int .i64 8, .bool true]) := fun W hW =>
  have e : first 0 130 1 = 8 := by decide +kernel
  have := class_any 0 130 W hW
  by rw [e] at this; exact this
theorem aligned_c : Same 12 #[.int .i64 1, .int .i64 20, .int .i64 16] (.tuple #[.int .i64 3, .bool true]) := fun W hW =>
  have e : ans 1 20 16 = 3 := by decide +kernel
  have := aligned_any 1 20 16 W hW
  by rw [e] at this; exact this
theorem size_c : Same 16 #[.int .i64 1, .int .i64 8] (.int .i64 192) := fun W hW =>
  have e : sizeOf' 1 8 = 192 := by decide +kernel
  e ▸ size_any 1 8 W hW
theorem slots_c : Same 17 #[.int .i64 1, .int .i64 0] (.int .i64 128) := fun W hW =>
  have e : slotsOf 1 0 = 128 := by decide +kernel
  e ▸ slots_any 1 0 W hW
theorem twin_c0 : Same 19 #[.int .i64 0, .int .i64 9] (.int .i64 8) := fun W hW =>
  have e : twin 0 9 = 8 := by decide +kernel
  e ▸ twin_any 0 9 W hW
theorem twin_c1 : Same 19 #[.int .i64 1, .int .i64 0] (.int .i64 (-1)) := fun W hW =>
  have e : twin 1 0 = -1 := by decide +kernel
  e ▸ twin_any 1 0 W hW
theorem both_c1 : Same 20 #[.int .i64 384] (.bool true) := fun W hW =>
  have e : bothB 384 = true := by decide +kernel
  e ▸ both_any 384 W hW
theorem both_c0 : Same 20 #[.int .i64 24] (.bool false) := fun W hW =>
  have e : bothB 24 = false := by decide +kernel
  e ▸ both_any 24 W hW

theorem alive_any (w : World) (hT : Tab w) : Calls Tryd.prog 7 #[] w fun e w' => e = .returned (.bool true) ∧ Below w.heap.size w w' := by
  have HT := Lib.hid hT
  clear hT
  go_enter Tryd.func7, Tryd.ntmps7
  go_wp2_with fail
  refine (class_c1 _ HT.out).mono ?_
  rintro e w' ⟨rfl, rfl⟩
  go_wp2_with fail
  refine (class_c0 _ HT.out).mono ?_
  rintro e w' ⟨rfl, rfl⟩
  go_wp2_with fail
  refine (aligned_c _ HT.out).mono ?_
  rintro e w' ⟨rfl, rfl⟩
  go_wp2_with fail
  refine (size_c _ HT.out).mono ?_
  rintro e w' ⟨rfl, rfl⟩
  go_wp2_with fail
  refine (slots_c _ HT.out).mono ?_
  rintro e w' ⟨rfl, rfl⟩
  go_wp2_with fail
  refine (twin_c0 _ HT.out).mono ?_
  rintro e w' ⟨rfl, rfl⟩
  go_wp2_with fail
  refine (twin_c1 _ HT.out).mono ?_
  rintro e w' ⟨rfl, rfl⟩
  go_wp2_with fail
  refine (both_c1 _ HT.out).mono ?_
  rintro e w' ⟨rfl, rfl⟩
  go_wp2_with fail
  refine (both_c0 _ HT.out).mono ?_
  rintro e w' ⟨rfl, rfl⟩
  go_wp2_with fail
  refine (sizes_any 1 _ HT.out).mono ?_
  rintro e w' ⟨p, he, _, hb⟩
  rw [cnt_1] at he
  subst he
  go_wp2
  go_ret
  exact ⟨rfl, hb⟩

end Go.Proofs.YthdjceihbmdneaaDoor
