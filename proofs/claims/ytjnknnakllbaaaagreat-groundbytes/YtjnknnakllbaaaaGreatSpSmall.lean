/-
  What the program's functions do, first part: contracts that the claimed proofs use.
-/
import Derived.Test.YtjnknnakllbaaaaGreatRows
import Derived.Test.YtjnknnakllbaaaaGreatSpBase
import Derived.WalkKit
import Derived.WalkSpells
import Derived.WalkLawsBesides
import Derived.Deep.QuietTactic
import Derived.BigQuiet
import Derived.Deep.RegionHeld3
import Derived.Lib.Hide
namespace Go.Proofs.YtjnknnakllbaaaaGreat.Sp
set_option maxRecDepth 100000
open Go.RowKit

theorem ret_i {a b : Int} (h : a = b) : Ending.returned (.int .i64 a) = .returned (.int .i64 b) := by rw [h]
theorem ret_b {a b : Bool} (h : a = b) : Ending.returned (.bool a) = .returned (.bool b) := by rw [h]
theorem ret_ii {a b c d : Int} (h : a = b) (h2 : c = d) : Ending.returned (.tuple #[.int .i64 a, .int .i64 c]) = .returned (.tuple #[.int .i64 b, .int .i64 d]) := by rw [h, h2]

/-- sizes.isSize. -/
theorem isSize_any (n : Int) (w : World) : Calls Tryz.prog 125 #[.int .i64 n] w fun e w' => e = .returned (.bool (sizeB n)) ∧ w = w' := by
  by_cases h0 : 0 ≤ n
  · go_enter Tryz.func125, Tryz.ntmps125
    go_wp2
    go_ret
    exact ⟨ret_b (by unfold sizeB; rw [decide_eq_decide]; omega), rfl⟩
  · have hd : decide (0 ≤ n) = false := by simpa using h0
    go_enter Tryz.func125, Tryz.ntmps125
    go_wp2
    go_ret
    exact ⟨ret_b (by symm; rw [sizeB_not]; omega), rfl⟩

/-- sizes.Grain. -/
theorem grain_any (n : Int) (w : World) (hn : n ≤ 9223372036854775807) : Calls Tryz.prog 126 #[.int .i64 n] w fun e w' => e = .returned (.int .i64 (grain n)) ∧ w = w' := by
  by_cases h0 : n < 1
  · go_enter Tryz.func126, Tryz.ntmps126
    go_wp2
    go_ret
    exact ⟨ret_i (grain_no h0).symm, rfl⟩
  · obtain ⟨N, rfl⟩ := Int.eq_ofNat_of_zero_le (by omega : 0 ≤ n)
    go_enter Tryz.func126, Tryz.ntmps126
    go_wp2
    go_ret
    exact ⟨ret_i (by rw [gr_raw (by omega) (by omega), grain_nat (by omega)]), rfl⟩

/-- sizes.Power. -/
theorem power_any (n : Int) (w : World) : Calls Tryz.prog 116 #[.int .i64 n] w fun e w' => e = .returned (.bool (powB n)) ∧ w = w' := by
  by_cases hs : 0 ≤ n ∧ n ≤ 1099511627776
  · obtain ⟨h0, h1⟩ := hs
    have hs : sizeB n = true := sizeB_iff.2 ⟨h0, h1⟩
    by_cases hz : n = 0
    · subst hz
      go_enter Tryz.func116, Tryz.ntmps116
      go_wp2_with (go_at_call 125; refine (isSize_any _ _).mono ?_; rintro e w' ⟨rfl, rfl⟩)
      go_ret
      exact ⟨ret_b (pow_out (by omega)).symm, rfl⟩
    · have hz' : (n != 0) = true := by simpa using hz
      have P := Lib.hid (pow_grain (n := n) (by omega) h1)
      have hg := Lib.hid (fun w => grain_any n w (by omega))
      go_enter Tryz.func116, Tryz.ntmps116
      go_wp2_with (first | (go_at_call 125; refine (isSize_any _ _).mono ?_; rintro e w' ⟨rfl, rfl⟩) | (go_at_call 126; refine (hg.out _).mono ?_; rintro e w' ⟨rfl, rfl⟩))
      go_ret
      exact ⟨ret_b P.out.symm, rfl⟩
  · have h1 : sizeB n = false := sizeB_not.2 hs
    have P := Lib.hid (pow_out (n := n) (by omega))
    go_enter Tryz.func116, Tryz.ntmps116
    go_wp2_with (go_at_call 125; refine (isSize_any _ _).mono ?_; rintro e w' ⟨rfl, rfl⟩)
    go_ret
    exact ⟨ret_b P.out.symm, rfl⟩

/-- sizes.multipleUpTo. -/
theorem multiple_any (n p : Int) (w : World) (h0 : 0 ≤ n) (h1 : n ≤ 9223372036854775807) (hp : powB p = true) : Calls Tryz.prog 130 #[.int .i64 n, .int .i64 p] w fun e w' => e = .returned (.int .i64 (down n p)) ∧ w = w' := by
  have hb := powB_bd hp
  have P := Lib.hid hp
  clear hp
  go_enter Tryz.func130, Tryz.ntmps130
  go_wp2
  go_ret
  refine ⟨ret_i ?_, rfl⟩
  obtain ⟨k, hk, rfl⟩ := powB_iff.1 P.out
  obtain ⟨N, rfl⟩ := Int.eq_ofNat_of_zero_le h0
  exact andNot_raw (by omega) hk

/-- sizes.Of. -/
theorem of_yes (n : Int) (w : World) (h0 : 0 ≤ n) (h1 : n ≤ 1099511627776) : Calls Tryz.prog 129 #[.int .u64 n] w fun e w' => e = .returned (.tuple #[.int .i64 n, .int .i64 0]) ∧ w = w' := by
  go_enter Tryz.func129, Tryz.ntmps129
  go_wp2
  go_ret2
  exact ⟨rfl, rfl⟩
theorem of_no (n : Int) (w : World) (h1 : 1099511627776 < n) : Calls Tryz.prog 129 #[.int .u64 n] w fun e w' => e = .returned (.tuple #[.int .i64 0, .int .i64 14]) ∧ w = w' := by
  go_enter Tryz.func129, Tryz.ntmps129
  go_wp2
  go_ret2
  exact ⟨rfl, rfl⟩

/-- sizes.Up. -/
theorem up_yes (n p : Int) (w : World) (hn : sizeB n = true) (hp : powB p = true) : Calls Tryz.prog 120 #[.int .i64 n, .int .i64 p] w fun e w' => e = .returned (.tuple #[.int .i64 (up n p), .int .i64 0]) ∧ w = w' := by
  obtain ⟨h0, h1⟩ := sizeB_iff.1 hn
  obtain ⟨p0, p1⟩ := powB_bd hp
  have M := Lib.hid (fun w => multiple_any (n + p - 1) p w (by omega) (by omega) hp)
  have u0 := up_nonneg p0 h0
  have u1 := up_size hp h1
  have U : up n p = down (n + p - 1) p := rfl
  generalize up n p = a at *
  rw [← U] at M
  clear U
  go_enter Tryz.func120, Tryz.ntmps120
  go_wp2_with (first | (go_at_call 125; refine (isSize_any _ _).mono ?_; rintro e w' ⟨rfl, rfl⟩) | (go_at_call 116; refine (power_any _ _).mono ?_; rintro e w' ⟨rfl, rfl⟩) | (go_at_call 130; refine (M.out _).mono ?_; rintro e w' ⟨rfl, rfl⟩) | (go_at_call 129; refine (of_yes _ _ u0 u1).mono ?_; rintro e w' ⟨rfl, rfl⟩))
  go_ret2
  exact ⟨rfl, rfl⟩
theorem up_no (n p : Int) (w : World) (h : sizeB n = false ∨ powB p = false) : Calls Tryz.prog 120 #[.int .i64 n, .int .i64 p] w fun e w' => e = .returned (.tuple #[.int .i64 0, .int .i64 11]) ∧ w = w' := by
  cases hn : sizeB n
  · go_enter Tryz.func120, Tryz.ntmps120
    go_wp2_with (first | (go_at_call 125; refine (isSize_any _ _).mono ?_; rintro e w' ⟨rfl, rfl⟩) | (go_at_call 116; refine (power_any _ _).mono ?_; rintro e w' ⟨rfl, rfl⟩))
    go_ret2
    exact ⟨rfl, rfl⟩
  · have hp : powB p = false := by rcases h with h | h <;> simp_all
    clear h
    go_enter Tryz.func120, Tryz.ntmps120
    go_wp2_with (first | (go_at_call 125; refine (isSize_any _ _).mono ?_; rintro e w' ⟨rfl, rfl⟩) | (go_at_call 116; refine (power_any _ _).mono ?_; rintro e w' ⟨rfl, rfl⟩))
    go_ret2
    exact ⟨rfl, rfl⟩

end Go.Proofs.YtjnknnakllbaaaaGreat.Sp
