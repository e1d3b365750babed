/-
  What the program's functions do, first part: contracts that the claimed proofs use.
-/
import Derived.Test.YthdjceihbmdneaaDoorRows
import Derived.Test.YthdjceihbmdneaaDoorBase
import Derived.WalkKit
import Derived.WalkSpells
import Derived.WalkLawsBesides
import Derived.Deep.QuietTactic
import Derived.BigQuiet
import Derived.Deep.RegionHeld3
import Derived.Lib.Hide
namespace Go.Proofs.YthdjceihbmdneaaDoor
open Go.RowKit

theorem ret_i {a b : Int} (h : a = b) : Ending.returned (.int .i64 a) = .returned (.int .i64 b) := by rw [h]
theorem ret_b {a b : Bool} (h : a = b) : Ending.returned (.bool a) = .returned (.bool b) := by rw [h]
theorem ret_ib {a b : Int} {c d : Bool} (h : a = b) (h2 : c = d) : Ending.returned (.tuple #[.int .i64 a, .bool c]) = .returned (.tuple #[.int .i64 b, .bool d]) := by rw [h, h2]
theorem ret_ii {a b c d : Int} (h : a = b) (h2 : c = d) : Ending.returned (.tuple #[.int .i64 a, .int .i64 c]) = .returned (.tuple #[.int .i64 b, .int .i64 d]) := by rw [h, h2]

/-- sizes.isSize. -/
theorem isSize_any (n : Int) (w : World) : Calls Tryd.prog 35 #[.int .i64 n] w fun e w' => e = .returned (.bool (sizeB n)) ∧ w = w' := by
  by_cases h0 : 0 ≤ n
  · go_enter Tryd.func35, Tryd.ntmps35
    go_wp2
    go_ret
    exact ⟨ret_b (by unfold sizeB; rw [decide_eq_decide]; omega), rfl⟩
  · have hd : decide (0 ≤ n) = false := by simpa using h0
    go_enter Tryd.func35, Tryd.ntmps35
    go_wp2
    go_ret
    exact ⟨ret_b (by symm; rw [sizeB_not]; omega), rfl⟩

/-- sizes.Grain. -/
theorem grain_any (n : Int) (w : World) (hn : n ≤ 9223372036854775807) : Calls Tryd.prog 36 #[.int .i64 n] w fun e w' => e = .returned (.int .i64 (grain n)) ∧ w = w' := by
  by_cases h0 : n < 1
  · go_enter Tryd.func36, Tryd.ntmps36
    go_wp2
    go_ret
    exact ⟨ret_i (grain_no h0).symm, rfl⟩
  · obtain ⟨N, rfl⟩ := Int.eq_ofNat_of_zero_le (by omega : 0 ≤ n)
    go_enter Tryd.func36, Tryd.ntmps36
    go_wp2
    go_ret
    exact ⟨ret_i (by rw [gr_raw (by omega) (by omega), grain_nat (by omega)]), rfl⟩

/-- sizes.Power. -/
theorem power_any (n : Int) (w : World) : Calls Tryd.prog 34 #[.int .i64 n] w fun e w' => e = .returned (.bool (powB n)) ∧ w = w' := by
  by_cases hs : 0 ≤ n ∧ n ≤ 1099511627776
  · obtain ⟨h0, h1⟩ := hs
    have hs : sizeB n = true := sizeB_iff.2 ⟨h0, h1⟩
    by_cases hz : n = 0
    · subst hz
      go_enter Tryd.func34, Tryd.ntmps34
      go_wp2_with (go_at_call 35; refine (isSize_any _ _).mono ?_; rintro e w' ⟨rfl, rfl⟩)
      go_ret
      exact ⟨ret_b (pow_out (by omega)).symm, rfl⟩
    · have hz' : (n != 0) = true := by simpa using hz
      have P := Lib.hid (pow_grain (n := n) (by omega) h1)
      have hg := Lib.hid (fun w => grain_any n w (by omega))
      go_enter Tryd.func34, Tryd.ntmps34
      go_wp2_with (first | (go_at_call 35; refine (isSize_any _ _).mono ?_; rintro e w' ⟨rfl, rfl⟩) | (go_at_call 36; refine (hg.out _).mono ?_; rintro e w' ⟨rfl, rfl⟩))
      go_ret
      exact ⟨ret_b P.out.symm, rfl⟩
  · have h1 : sizeB n = false := sizeB_not.2 hs
    have P := Lib.hid (pow_out (n := n) (by omega))
    go_enter Tryd.func34, Tryd.ntmps34
    go_wp2_with (go_at_call 35; refine (isSize_any _ _).mono ?_; rintro e w' ⟨rfl, rfl⟩)
    go_ret
    exact ⟨ret_b P.out.symm, rfl⟩

/-- tablea.isAlign. -/
theorem isAlign_any (a : Int) (w : World) : Calls Tryd.prog 31 #[.int .i64 a] w fun e w' => e = .returned (.bool (alignB a)) ∧ w = w' := by
  by_cases h : a ≤ 4096
  · have hd : decide (a ≤ 4096) = true := by simpa using h
    go_enter Tryd.func31, Tryd.ntmps31
    go_wp2_with (go_at_call 34; refine (power_any _ _).mono ?_; rintro e w' ⟨rfl, rfl⟩)
    go_ret
    exact ⟨ret_b (by unfold alignB; rw [hd]; rfl), rfl⟩
  · have hd : decide (a ≤ 4096) = false := by simpa using h
    go_enter Tryd.func31, Tryd.ntmps31
    go_wp2
    go_ret
    exact ⟨ret_b (by unfold alignB; rw [hd]; rfl), rfl⟩

/-- tableb.isAlign. -/
theorem isAlign2_any (a : Int) (w : World) : Calls Tryd.prog 33 #[.int .i64 a] w fun e w' => e = .returned (.bool (alignB a)) ∧ w = w' := by
  by_cases h : a ≤ 4096
  · have hd : decide (a ≤ 4096) = true := by simpa using h
    go_enter Tryd.func33, Tryd.ntmps33
    go_wp2_with (go_at_call 34; refine (power_any _ _).mono ?_; rintro e w' ⟨rfl, rfl⟩)
    go_ret
    exact ⟨ret_b (by unfold alignB; rw [hd]; rfl), rfl⟩
  · have hd : decide (a ≤ 4096) = false := by simpa using h
    go_enter Tryd.func33, Tryd.ntmps33
    go_wp2
    go_ret
    exact ⟨ret_b (by unfold alignB; rw [hd]; rfl), rfl⟩

/-- tablea.isClass. -/
theorem isClass_any (c : Int) (w : World) : Calls Tryd.prog 32 #[.int .i64 c] w fun e w' => e = .returned (.bool (classB c)) ∧ w = w' := by
  by_cases h0 : 0 ≤ c
  · go_enter Tryd.func32, Tryd.ntmps32
    go_wp2
    go_ret
    exact ⟨ret_b (by unfold classB; rw [decide_eq_decide]; omega), rfl⟩
  · have hd : decide (0 ≤ c) = false := by simpa using h0
    go_enter Tryd.func32, Tryd.ntmps32
    go_wp2
    go_ret
    exact ⟨ret_b (by symm; rw [classB_not]; omega), rfl⟩

end Go.Proofs.YthdjceihbmdneaaDoor
