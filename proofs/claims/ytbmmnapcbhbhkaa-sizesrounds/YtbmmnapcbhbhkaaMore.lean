/-
  What the program's functions do, second part: contracts that the claimed proofs use.
-/
import Derived.Test.YtbmmnapcbhbhkaaSmall
import Derived.Laws.Bits64b
namespace Go.Proofs.Ytbmmnapcbhbhkaa
open Go.RowKit

/-- sizes.Pages. -/
def pages (n : Int) : Int := max ((n + 255) / 256) 1
theorem up_256 (n : Int) : up n 256 = (n + 255) / 256 * 256 := by unfold up; rw [show n + 256 - 1 = n + 255 by omega]
theorem pages_yes (n : Int) (w : World) (hn : sizeB n = true) : Calls Try.prog 16 #[.int .i64 n] w fun e w' => e = .returned (.tuple #[.int .i64 (pages n), .int .i64 0]) ∧ w = w' := by
  obtain ⟨h0, h1⟩ := sizeB_iff.1 hn
  have U := Lib.hid (fun w => up_yes n 256 w hn (by decide +kernel))
  rw [up_256] at U
  unfold pages
  have q0 : 0 ≤ (n + 255) / 256 := by omega
  have q1 : (n + 255) / 256 ≤ 4294967297 := by omega
  generalize (n + 255) / 256 = q at *
  have hq : (q * 256).tdiv 256 = q := by rw [Int.tdiv_eq_ediv_of_nonneg (by omega)]; omega
  go_enter Try.func16, Try.ntmps16
  go_wp2_with (first | (go_at_call 13; refine (U.out _).mono ?_; rintro e w' ⟨rfl, rfl⟩))
  all_goals (go_ret2; exact ⟨ret_ii (by omega) rfl, rfl⟩)
theorem pages_no (n : Int) (w : World) (hn : sizeB n = false) : Calls Try.prog 16 #[.int .i64 n] w fun e w' => e = .returned (.tuple #[.int .i64 0, .int .i64 11]) ∧ w = w' := by
  go_enter Try.func16, Try.ntmps16
  go_wp2_with (first | (go_at_call 13; refine (up_no n 256 _ (Or.inl hn)).mono ?_; rintro e w' ⟨rfl, rfl⟩))
  go_ret2
  exact ⟨rfl, rfl⟩

/-- sizes.Align. -/
theorem align_zero (w : World) : Calls Try.prog 11 #[.int .u64 0] w fun e w' => e = .returned (.tuple #[.int .i64 1, .int .i64 0]) ∧ w = w' := by
  go_enter Try.func11, Try.ntmps11
  go_wp2
  go_ret2
  exact ⟨rfl, rfl⟩
theorem align_great (n : Int) (w : World) (h : 4096 < n) : Calls Try.prog 11 #[.int .u64 n] w fun e w' => e = .returned (.tuple #[.int .i64 0, .int .i64 11]) ∧ w = w' := by
  go_enter Try.func11, Try.ntmps11
  go_wp2
  go_ret2
  exact ⟨rfl, rfl⟩
theorem align_no (n : Int) (w : World) (h0 : 1 ≤ n) (h : n ≤ 4096) (hp : powB n = false) : Calls Try.prog 11 #[.int .u64 n] w fun e w' => e = .returned (.tuple #[.int .i64 0, .int .i64 11]) ∧ w = w' := by
  have hd : decide (4096 < n) = false := by simpa using h
  go_enter Try.func11, Try.ntmps11
  go_wp2_with (first | (go_at_call 18; refine (power_any _ _).mono ?_; rintro e w' ⟨rfl, rfl⟩))
  go_ret2
  exact ⟨rfl, rfl⟩
theorem align_yes (n : Int) (w : World) (h0 : 1 ≤ n) (h : n ≤ 4096) (hp : powB n = true) : Calls Try.prog 11 #[.int .u64 n] w fun e w' => e = .returned (.tuple #[.int .i64 n, .int .i64 0]) ∧ w = w' := by
  have hd : decide (4096 < n) = false := by simpa using h
  go_enter Try.func11, Try.ntmps11
  go_wp2_with (first | (go_at_call 18; refine (power_any _ _).mono ?_; rintro e w' ⟨rfl, rfl⟩))
  go_ret2
  exact ⟨rfl, rfl⟩

/-! ### The library's two -/
theorem mask32 (a : Nat) (ha : a < 18446744073709551616) : bits .and .u64 (a : Int) 4294967295 = ((a % 4294967296 : Nat) : Int) := by
  have h := bits_and_u64_nat a 4294967295 ha (by omega)
  rw [Nat.and_two_pow_sub_one_eq_mod a 32] at h
  exact h
theorem div32 (a : Nat) : (a : Int) / 4294967296 = ((a / 4294967296 : Nat) : Int) := by omega
theorem mulN (a b : Nat) : (a : Int) * (b : Int) = ((a * b : Nat) : Int) := (Int.natCast_mul a b).symm
theorem addN (a b : Nat) : (a : Int) + (b : Int) = ((a + b : Nat) : Int) := (Int.natCast_add a b).symm
theorem wrapN (a : Nat) (ha : a < 18446744073709551616) : IntKind.u64.wrap (a : Int) = (a : Int) := by rw [IntKind.wrap_u64]; omega
theorem wrapM (a : Nat) : IntKind.u64.wrap (a : Int) = ((a % 18446744073709551616 : Nat) : Int) := by rw [IntKind.wrap_u64]; omega
set_option maxHeartbeats 1000000 in
theorem mul64_any (x y : Nat) (hx : x < 18446744073709551616) (hy : y < 18446744073709551616) (w : World) :
    Calls Try.prog 23 #[.int .u64 x, .int .u64 y] w fun e w' => e = .returned (.tuple #[.int .u64 ((x * y / 18446744073709551616 : Nat) : Int), .int .u64 ((x * y % 18446744073709551616 : Nat) : Int)]) ∧ w = w' := by
  obtain ⟨bd, bt, bw, hhi⟩ := Lib.mul64_hi x y hx hy
  have ba := Lib.half_mul_le (a := x / 4294967296) (b := y / 4294967296) (by omega) (by omega)
  have bb := Lib.half_mul_le (a := x / 4294967296) (b := y % 4294967296) (by omega) (by omega)
  have bc := Lib.half_mul_le (a := x % 4294967296) (b := y / 4294967296) (by omega) (by omega)
  have ba' : x / 4294967296 * (y / 4294967296) < 18446744073709551616 := by omega
  have bb' : x / 4294967296 * (y % 4294967296) < 18446744073709551616 := by omega
  have bc' : x % 4294967296 * (y / 4294967296) < 18446744073709551616 := by omega
  have bh1 : x / 4294967296 * (y / 4294967296) + (x / 4294967296 * (y % 4294967296) + x % 4294967296 * (y % 4294967296) / 4294967296) / 4294967296 < 18446744073709551616 := by omega
  have bh : x / 4294967296 * (y / 4294967296) + (x / 4294967296 * (y % 4294967296) + x % 4294967296 * (y % 4294967296) / 4294967296) / 4294967296 + ((x / 4294967296 * (y % 4294967296) + x % 4294967296 * (y % 4294967296) / 4294967296) % 4294967296 + x % 4294967296 * (y / 4294967296)) / 4294967296 < 18446744073709551616 := by omega
  go_enter Try.func23, Try.ntmps23
  go_wp2
  simp only [mask32 x hx, mask32 y hy, div32, mulN, addN, wrapN _ bd, wrapN _ bb', wrapN _ bt, mask32 _ bt, wrapN _ bc', wrapN _ bw, wrapN _ ba', wrapN _ bh1, wrapN _ bh, wrapM (x * y)]
  rw [hhi]
  go_ret2
  exact ⟨rfl, rfl⟩

/-- sizes.Times. -/
theorem times_no (x y : Nat) (hx : x < 18446744073709551616) (hy : y < 18446744073709551616) (w : World) (h : 1099511627776 < x * y) :
    Calls Try.prog 9 #[.int .u64 x, .int .u64 y] w fun e w' => e = .returned (.tuple #[.int .i64 0, .int .i64 14]) ∧ w = w' := by
  have M := Lib.hid (mul64_any x y hx hy)
  generalize x * y = z at *
  by_cases hz : z < 18446744073709551616
  · rw [Nat.div_eq_of_lt hz, Nat.mod_eq_of_lt hz] at M
    go_enter Try.func9, Try.ntmps9
    go_wp2_with (first | (go_at_call 23; refine (M.out _).mono ?_; rintro e w' ⟨rfl, rfl⟩) | (go_at_call 8; refine (of_no _ _ (by omega)).mono ?_; rintro e w' ⟨rfl, rfl⟩))
    go_ret2
    exact ⟨rfl, rfl⟩
  · obtain ⟨q, hq⟩ : ∃ q, z / 18446744073709551616 = q := ⟨_, rfl⟩
    have q0 : (((q : Nat) : Int) != 0) = true := by simp; omega
    rw [hq] at M
    clear hq
    go_enter Try.func9, Try.ntmps9
    go_wp2_with (first | (go_at_call 23; refine (M.out _).mono ?_; rintro e w' ⟨rfl, rfl⟩))
    go_ret2
    exact ⟨rfl, rfl⟩
theorem times_yes (x y : Nat) (hx : x < 18446744073709551616) (hy : y < 18446744073709551616) (w : World) (h : x * y ≤ 1099511627776) :
    Calls Try.prog 9 #[.int .u64 x, .int .u64 y] w fun e w' => e = .returned (.tuple #[.int .i64 ((x * y : Nat) : Int), .int .i64 0]) ∧ w = w' := by
  have M := Lib.hid (mul64_any x y hx hy)
  generalize x * y = z at *
  rw [Nat.div_eq_of_lt (by omega), Nat.mod_eq_of_lt (by omega)] at M
  go_enter Try.func9, Try.ntmps9
  go_wp2_with (first | (go_at_call 23; refine (M.out _).mono ?_; rintro e w' ⟨rfl, rfl⟩) | (go_at_call 8; refine (of_yes _ _ (by omega) (by omega)).mono ?_; rintro e w' ⟨rfl, rfl⟩))
  go_ret2
  exact ⟨rfl, rfl⟩

end Go.Proofs.Ytbmmnapcbhbhkaa
