/-
  The walk of the statement on powers.
-/
import Derived.Test.YtbmmnapcbhbhkaaAlive
namespace Go.Proofs.Ytbmmnapcbhbhkaa
open Go.RowKit

theorem wrap_pow {k : Nat} (h : k ≤ 41) : wrap64 (2 ^ k) = 2 ^ k := by
  have h1 : 2 ^ k ≤ 2 ^ 41 := Nat.pow_le_pow_right (by decide) h
  have h2 : 0 < 2 ^ k := Nat.two_pow_pos k
  rw [← pow_cast]; unfold wrap64; omega
set_option maxRecDepth 100000 in
theorem powers_low (n : Int) (w : World) (h : n < 1) : Calls Try.prog 6 #[.int .i64 n] w fun e w' => e = .returned (.bool true) ∧ w = w' := by
  have d0 : decide (n < 1) = true := by simpa using h
  have P : powB n = false := pow_out (by omega)
  have L : log n = -1 := log_no h
  go_enter Try.func6, Try.ntmps6
  go_wp2_with (first | (go_at_call 7; refine (alive_any _).mono ?_; rintro e w' ⟨rfl, rfl⟩) | (go_at_call 18; refine (power_any _ _).mono ?_; rintro e w' ⟨rfl, rfl⟩) | (go_at_call 19; refine (log_any n _ (by omega)).mono ?_; rintro e w' ⟨rfl, rfl⟩))
  go_ret
  exact ⟨rfl, rfl⟩
set_option maxRecDepth 100000 in
theorem powers_high (n : Int) (w : World) (h : 1099511627776 < n) (hn : n ≤ 9223372036854775807) : Calls Try.prog 6 #[.int .i64 n] w fun e w' => e = .returned (.bool true) ∧ w = w' := by
  have d0 : decide (n < 1) = false := by simp; omega
  have d1 : decide (1099511627776 < n) = true := by simpa using h
  have P : powB n = false := pow_out (by omega)
  obtain ⟨K, hK, _⟩ := log_spec (n := n) (by omega) hn
  have L : (((K : Nat) : Int) == -1) = false := by simp
  go_enter Try.func6, Try.ntmps6
  go_wp2_with (first | (go_at_call 7; refine (alive_any _).mono ?_; rintro e w' ⟨rfl, rfl⟩) | (go_at_call 18; refine (power_any _ _).mono ?_; rintro e w' ⟨rfl, rfl⟩) | (go_at_call 19; refine (log_any n _ (by omega)).mono ?_; rintro e w' ⟨rfl, rfl⟩))
  go_ret
  exact ⟨rfl, rfl⟩

set_option maxRecDepth 100000 in
set_option maxHeartbeats 2000000 in
theorem powers_mid (n : Int) (w : World) (h0 : 1 ≤ n) (h1 : n ≤ 1099511627776) : Calls Try.prog 6 #[.int .i64 n] w fun e w' => e = .returned (.bool true) ∧ w = w' := by
  have d0 : decide (n < 1) = false := by simpa using h0
  have d1 : decide (1099511627776 < n) = false := by simpa using h1
  have A := Lib.hid (fun w => log_any n w (by omega))
  have B := Lib.hid (fun w => grain_any n w (by omega))
  have P := Lib.hid (fun w => power_any n w)
  have G := Lib.hid (fun w => power_any (grain n) w)
  rw [pow_of_grain h0 h1] at G
  rw [pow_grain h0 h1] at P
  obtain ⟨K, hK, _, l1, l2⟩ := log_spec (n := n) h0 (by omega)
  obtain ⟨g, m, hg, g1, hn⟩ := grain_odd (n := n) h0 (by omega)
  have K40 := log_le l1 h1
  obtain ⟨S, hS⟩ : ∃ S : Int, S = 2 ^ K := ⟨_, rfl⟩
  obtain ⟨T, hT⟩ : ∃ T : Int, T = 2 ^ (K + 1) := ⟨_, rfl⟩
  rw [← hS] at l1
  rw [← hT] at l2
  have S0 := Lib.hid (fun w => power_any S w)
  rw [powB_iff.2 ⟨K, K40, hS⟩] at S0
  rw [hK] at A
  rw [hg] at B P G
  have r1 : n.tmod (g : Int) = 0 := by
    rw [hn, Int.tmod_eq_emod_of_nonneg (by omega), Int.natCast_mul]; exact Int.mul_emod_right _ _
  have r2 : n.tdiv (g : Int) = 2 * (m : Int) + 1 := by
    rw [hn, Int.tdiv_eq_ediv_of_nonneg (by omega), Int.natCast_mul, Int.mul_ediv_cancel_left _ (by omega)]; omega
  have r3 : (2 * (m : Int) + 1).tmod 2 = 1 := by rw [Int.tmod_eq_emod_of_nonneg (by omega)]; omega
  have o1 : 2 * (m : Int) + 1 ≤ n := by
    have : 2 * m + 1 ≤ g * (2 * m + 1) := Nat.le_mul_of_pos_left _ (by omega)
    rw [hn]; omega
  have o0 : 0 ≤ 2 * (m : Int) + 1 := by omega
  have g2 : 1 ≤ (g : Int) := by omega
  have e1 : wrap64 (2 ^ K) = S := by rw [wrap_pow (by omega), hS]
  have e2 : wrap64 (2 ^ (K + 1)) = T := by rw [wrap_pow (by omega), hT]
  have k0 : decide ((K : Int) < 0) = false := by simp
  have k1 : decide (40 < (K : Int)) = false := by simp; omega
  have q1 : decide (n < S) = false := by simpa using l1
  have q2 : decide (T ≤ n) = false := by simpa using l2
  have q3 : decide ((g : Int) < 1) = false := by simpa using g2
  clear hK hg hn l1 l2 g1 hS hT
  generalize 2 * (m : Int) + 1 = o at *
  generalize (g : Int) = G' at *
  clear m
  go_enter Try.func6, Try.ntmps6
  go_wp2_with (first | (go_at_call 7; refine (alive_any _).mono ?_; rintro e w' ⟨rfl, rfl⟩) | (go_at_call 19; refine (A.out _).mono ?_; rintro e w' ⟨rfl, rfl⟩) | (go_at_call 21; refine (B.out _).mono ?_; rintro e w' ⟨rfl, rfl⟩))
  refine (P.out _).mono ?_
  rintro e w' ⟨rfl, rfl⟩
  go_wp2_with fail
  refine (G.out _).mono ?_
  rintro e w' ⟨rfl, rfl⟩
  go_wp2_with fail
  refine (S0.out _).mono ?_
  rintro e w' ⟨rfl, rfl⟩
  go_wp2
  go_ret
  exact ⟨rfl, rfl⟩

theorem powers_any (n : Int) (w : World) (hn : n ≤ 9223372036854775807) : Calls Try.prog 6 #[.int .i64 n] w fun e w' => e = .returned (.bool true) ∧ w = w' := by
  by_cases h0 : n < 1
  · exact powers_low n w h0
  · by_cases h1 : 1099511627776 < n
    · exact powers_high n w h1 hn
    · exact powers_mid n w (by omega) (by omega)

end Go.Proofs.Ytbmmnapcbhbhkaa
