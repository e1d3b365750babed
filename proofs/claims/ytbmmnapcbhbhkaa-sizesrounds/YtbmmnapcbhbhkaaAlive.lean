/-
  What the statements' first call does: it answers true, and leaves all that was there as it was.
-/
import Derived.Test.YtbmmnapcbhbhkaaLog
namespace Go.Proofs.Ytbmmnapcbhbhkaa
open Go.RowKit

/-- A call that answers one value and leaves the world. -/
def Same (f : Nat) (args : Array Value) (v : Value) : Prop := ∀ W : World, Calls Try.prog f args W fun e w' => e = .returned v ∧ W = w'

theorem up_c (w : World) : Calls Try.prog 13 #[.int .i64 33, .int .i64 16] w fun e w' => e = .returned (.tuple #[.int .i64 48, .int .i64 0]) ∧ w = w' :=
  have e : up 33 16 = 48 := by decide +kernel
  e ▸ up_yes 33 16 w (by decide +kernel) (by decide +kernel)
theorem times_c (w : World) : Calls Try.prog 9 #[.int .u64 4294967296, .int .u64 4294967296] w fun e w' => e = .returned (.tuple #[.int .i64 0, .int .i64 14]) ∧ w = w' :=
  times_no 4294967296 4294967296 (by omega) (by omega) w (by omega)
theorem pages_c (w : World) : Calls Try.prog 16 #[.int .i64 257] w fun e w' => e = .returned (.tuple #[.int .i64 2, .int .i64 0]) ∧ w = w' :=
  have e : pages 257 = 2 := by decide +kernel
  e ▸ pages_yes 257 w (by decide +kernel)
theorem down_c (w : World) : Calls Try.prog 15 #[.int .i64 33, .int .i64 16] w fun e w' => e = .returned (.tuple #[.int .i64 32, .int .i64 0]) ∧ w = w' :=
  have e : down 33 16 = 32 := by decide +kernel
  e ▸ down_yes 33 16 w (by decide +kernel) (by decide +kernel)
theorem power_c1 (w : World) : Calls Try.prog 18 #[.int .i64 1099511627776] w fun e w' => e = .returned (.bool true) ∧ w = w' :=
  have e : powB 1099511627776 = true := by decide +kernel
  e ▸ power_any 1099511627776 w
theorem power_c2 (w : World) : Calls Try.prog 18 #[.int .i64 3] w fun e w' => e = .returned (.bool false) ∧ w = w' :=
  have e : powB 3 = false := by decide +kernel
  e ▸ power_any 3 w
theorem log_c (w : World) : Calls Try.prog 19 #[.int .i64 1000] w fun e w' => e = .returned (.int .i64 9) ∧ w = w' :=
  have e : log 1000 = 9 := by decide +kernel
  e ▸ log_any 1000 w (by decide)
theorem grain_c (w : World) : Calls Try.prog 21 #[.int .i64 48] w fun e w' => e = .returned (.int .i64 16) ∧ w = w' :=
  have e : grain 48 = 16 := by decide +kernel
  e ▸ grain_any 48 w (by decide)

set_option maxRecDepth 100000 in
set_option maxHeartbeats 2000000 in
theorem alive_any (w : World) : Calls Try.prog 7 #[] w fun e w' => e = .returned (.bool true) ∧ w = w' := by
  go_enter Try.func7, Try.ntmps7
  go_wp2_with fail
  refine (up_c _).mono ?_
  rintro e w' ⟨rfl, rfl⟩
  go_wp2_with fail
  refine (times_c _).mono ?_
  rintro e w' ⟨rfl, rfl⟩
  go_wp2_with fail
  refine (pages_c _).mono ?_
  rintro e w' ⟨rfl, rfl⟩
  go_wp2_with fail
  refine (down_c _).mono ?_
  rintro e w' ⟨rfl, rfl⟩
  go_wp2_with fail
  refine (of_yes 7 _ (by omega) (by omega)).mono ?_
  rintro e w' ⟨rfl, rfl⟩
  go_wp2_with fail
  refine (align_zero _).mono ?_
  rintro e w' ⟨rfl, rfl⟩
  go_wp2_with fail
  refine (narrow_yes 65535 _ (by omega) (by omega)).mono ?_
  rintro e w' ⟨rfl, rfl⟩
  go_wp2_with fail
  refine (power_c1 _).mono ?_
  rintro e w' ⟨rfl, rfl⟩
  go_wp2_with fail
  refine (power_c2 _).mono ?_
  rintro e w' ⟨rfl, rfl⟩
  go_wp2_with fail
  refine (log_c _).mono ?_
  rintro e w' ⟨rfl, rfl⟩
  go_wp2_with fail
  refine (grain_c _).mono ?_
  rintro e w' ⟨rfl, rfl⟩
  go_wp2
  go_ret
  exact ⟨rfl, rfl⟩

end Go.Proofs.Ytbmmnapcbhbhkaa
