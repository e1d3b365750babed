/-
  What the program's functions do, first part: contracts that the claimed proofs use.
-/
import Derived.Test.YtaelfgdiboekpaaDoorRows
import Derived.Test.YtaelfgdiboekpaaDoorTbBase
import Derived.WalkKit
import Derived.WalkSpells
import Derived.WalkLawsBesides
import Derived.Deep.QuietTactic
import Derived.BigQuiet
import Derived.Deep.RegionHeld3
import Derived.Lib.Hide
namespace Go.Proofs.YtaelfgdiboekpaaDoor.Tb
set_option maxRecDepth 100000
open Go.RowKit

theorem ret_i {a b : Int} (h : a = b) : Ending.returned (.int .i64 a) = .returned (.int .i64 b) := by rw [h]
theorem ret_b {a b : Bool} (h : a = b) : Ending.returned (.bool a) = .returned (.bool b) := by rw [h]
theorem ret_ib {a b : Int} {c d : Bool} (h : a = b) (h2 : c = d) : Ending.returned (.tuple #[.int .i64 a, .bool c]) = .returned (.tuple #[.int .i64 b, .bool d]) := by rw [h, h2]
theorem ret_ii {a b c d : Int} (h : a = b) (h2 : c = d) : Ending.returned (.tuple #[.int .i64 a, .int .i64 c]) = .returned (.tuple #[.int .i64 b, .int .i64 d]) := by rw [h, h2]

/-- tablea.isClass. -/
theorem isClass_any (c : Int) (w : World) : Calls Tryd.prog 107 #[.int .i64 c] w fun e w' => e = .returned (.bool (classB c)) ∧ w = w' := by
  by_cases h0 : 0 ≤ c
  · go_enter Tryd.func107, Tryd.ntmps107
    go_wp2
    go_ret
    exact ⟨ret_b (by unfold classB; rw [decide_eq_decide]; omega), rfl⟩
  · have hd : decide (0 ≤ c) = false := by simpa using h0
    go_enter Tryd.func107, Tryd.ntmps107
    go_wp2
    go_ret
    exact ⟨ret_b (by symm; rw [classB_not]; omega), rfl⟩

end Go.Proofs.YtaelfgdiboekpaaDoor.Tb
