/-
  The walk of the statement on requests.
-/
import Derived.Test.YtbmmnapcbhbhkaaAlive
import Derived.Test.YtbmmnapcbhbhkaaRefs
namespace Go.Proofs.Ytbmmnapcbhbhkaa
open Go.RowKit

set_option maxRecDepth 100000 in
set_option maxHeartbeats 4000000 in
theorem requests_walk (X Y n e m f k g : Int) (ok : Bool) (w : World) (x0 : 0 ≤ X) (x1 : X ≤ 18446744073709551615)
    (g1 : Same 8 #[.int .u64 X] (.tuple #[.int .i64 n, .int .i64 e])) (g2 : Same 9 #[.int .u64 X, .int .u64 Y] (.tuple #[.int .i64 m, .int .i64 f]))
    (g3 : Same 10 #[.int .u64 X, .int .u64 Y] (.tuple #[.int .i64 m, .bool ok])) (g4 : Same 11 #[.int .u64 X] (.tuple #[.int .i64 k, .int .i64 g]))
    (c1 : (1099511627776 < X ∧ n = 0 ∧ e = 14) ∨ (X ≤ 1099511627776 ∧ X = n ∧ e = 0)) (c2 : (ok = true ∧ f = 0) ∨ (ok = false ∧ f = 14))
    (c3 : (X = 0 ∧ k = 1 ∧ g = 0) ∨ (4096 < X ∧ k = 0 ∧ g = 11) ∨ (1 ≤ X ∧ X ≤ 4096 ∧ powB X = false ∧ k = 0 ∧ g = 11) ∨ (1 ≤ X ∧ X ≤ 4096 ∧ powB X = true ∧ X = k ∧ g = 0)) :
    Calls Try.prog 3 #[.int .u64 X, .int .u64 Y] w fun e w' => e = .returned (.bool true) ∧ w = w' := by
  have G1 := Lib.hid g1
  have G2 := Lib.hid g2
  have G3 := Lib.hid g3
  have G4 := Lib.hid g4
  clear g1 g2 g3 g4
  have t : decide (1099511627776 < X) = true ∧ n = 0 ∧ e = 14 ∧ 4096 < X ∨ decide (1099511627776 < X) = false ∧ decide (X ≤ 1099511627776) = true ∧ X ≤ 1099511627776 ∧ X = n ∧ e = 0 := by
    rcases c1 with ⟨h, a, b⟩ | ⟨h, a, b⟩
    · left; exact ⟨by simpa using h, a, b, by omega⟩
    · right; exact ⟨by simpa using h, by simpa using h, h, a, b⟩
  clear c1
  rcases t with ⟨t1, rfl, rfl, t2⟩ | ⟨t1, t3, t2, rfl, rfl⟩
  · have c3' : k = 0 ∧ g = 11 := by omega
    obtain ⟨rfl, rfl⟩ := c3'
    have t4 : decide (4096 < X) = true := by simpa using t2
    have t5 : (X == 0) = false := by simp; omega
    have t6 : decide (X ≤ 1099511627776) = false := by
      have := of_decide_eq_true t1; simp; omega
    clear c3
    rcases c2 with ⟨rfl, rfl⟩ | ⟨rfl, rfl⟩
    all_goals
      go_enter Try.func3, Try.ntmps3
      go_wp2_with (first | (go_at_call 7; refine (alive_any _).mono ?_; rintro e w' ⟨rfl, rfl⟩) | (go_at_call 8; refine (G1.out _).mono ?_; rintro e w' ⟨rfl, rfl⟩) | (go_at_call 9; refine (G2.out _).mono ?_; rintro e w' ⟨rfl, rfl⟩) | (go_at_call 10; refine (G3.out _).mono ?_; rintro e w' ⟨rfl, rfl⟩) | (go_at_call 11; refine (G4.out _).mono ?_; rintro e w' ⟨rfl, rfl⟩))
      go_ret
      exact ⟨rfl, rfl⟩
  · rcases c3 with ⟨rfl, rfl, rfl⟩ | ⟨y1, rfl, rfl⟩ | ⟨y0, y1, y2, rfl, rfl⟩ | ⟨y0, y1, y2, rfl, rfl⟩
    · rcases c2 with ⟨rfl, rfl⟩ | ⟨rfl, rfl⟩
      all_goals
        go_enter Try.func3, Try.ntmps3
        go_wp2_with (first | (go_at_call 7; refine (alive_any _).mono ?_; rintro e w' ⟨rfl, rfl⟩) | (go_at_call 8; refine (G1.out _).mono ?_; rintro e w' ⟨rfl, rfl⟩) | (go_at_call 9; refine (G2.out _).mono ?_; rintro e w' ⟨rfl, rfl⟩) | (go_at_call 10; refine (G3.out _).mono ?_; rintro e w' ⟨rfl, rfl⟩) | (go_at_call 11; refine (G4.out _).mono ?_; rintro e w' ⟨rfl, rfl⟩))
        go_ret
        exact ⟨rfl, rfl⟩
    · have t4 : decide (4096 < X) = true := by simpa using y1
      have t5 : (X == 0) = false := by simp; omega
      rcases c2 with ⟨rfl, rfl⟩ | ⟨rfl, rfl⟩
      all_goals
        go_enter Try.func3, Try.ntmps3
        go_wp2_with (first | (go_at_call 7; refine (alive_any _).mono ?_; rintro e w' ⟨rfl, rfl⟩) | (go_at_call 8; refine (G1.out _).mono ?_; rintro e w' ⟨rfl, rfl⟩) | (go_at_call 9; refine (G2.out _).mono ?_; rintro e w' ⟨rfl, rfl⟩) | (go_at_call 10; refine (G3.out _).mono ?_; rintro e w' ⟨rfl, rfl⟩) | (go_at_call 11; refine (G4.out _).mono ?_; rintro e w' ⟨rfl, rfl⟩))
        go_ret
        exact ⟨rfl, rfl⟩
    all_goals
      have t4 : decide (4096 < X) = false := by simpa using y1
      have t5 : (X == 0) = false := by simp; omega
      rcases c2 with ⟨rfl, rfl⟩ | ⟨rfl, rfl⟩
      all_goals
        go_enter Try.func3, Try.ntmps3
        go_wp2_with (first | (go_at_call 7; refine (alive_any _).mono ?_; rintro e w' ⟨rfl, rfl⟩) | (go_at_call 8; refine (G1.out _).mono ?_; rintro e w' ⟨rfl, rfl⟩) | (go_at_call 9; refine (G2.out _).mono ?_; rintro e w' ⟨rfl, rfl⟩) | (go_at_call 10; refine (G3.out _).mono ?_; rintro e w' ⟨rfl, rfl⟩) | (go_at_call 11; refine (G4.out _).mono ?_; rintro e w' ⟨rfl, rfl⟩) | (go_at_call 12; refine (rpower_any _ _).mono ?_; rintro e w' ⟨rfl, rfl⟩))
        go_ret
        exact ⟨rfl, rfl⟩

theorem of_any (X : Int) (h0 : 0 ≤ X) : ∃ n e, Same 8 #[.int .u64 X] (.tuple #[.int .i64 n, .int .i64 e]) ∧ ((1099511627776 < X ∧ n = 0 ∧ e = 14) ∨ (X ≤ 1099511627776 ∧ X = n ∧ e = 0)) := by
  by_cases h : X ≤ 1099511627776
  · exact ⟨X, 0, fun W => of_yes X W h0 h, Or.inr ⟨h, rfl, rfl⟩⟩
  · exact ⟨0, 14, fun W => of_no X W (by omega), Or.inl ⟨by omega, rfl, rfl⟩⟩
theorem align_any (X : Int) (h0 : 0 ≤ X) : ∃ k g, Same 11 #[.int .u64 X] (.tuple #[.int .i64 k, .int .i64 g]) ∧
    ((X = 0 ∧ k = 1 ∧ g = 0) ∨ (4096 < X ∧ k = 0 ∧ g = 11) ∨ (1 ≤ X ∧ X ≤ 4096 ∧ powB X = false ∧ k = 0 ∧ g = 11) ∨ (1 ≤ X ∧ X ≤ 4096 ∧ powB X = true ∧ X = k ∧ g = 0)) := by
  by_cases hz : X = 0
  · subst hz; exact ⟨1, 0, fun W => align_zero W, Or.inl ⟨rfl, rfl, rfl⟩⟩
  · by_cases h : 4096 < X
    · exact ⟨0, 11, fun W => align_great X W h, Or.inr (Or.inl ⟨h, rfl, rfl⟩)⟩
    · cases hp : powB X
      · exact ⟨0, 11, fun W => align_no X W (by omega) (by omega) hp, Or.inr (Or.inr (Or.inl ⟨by omega, by omega, rfl, rfl, rfl⟩))⟩
      · exact ⟨X, 0, fun W => align_yes X W (by omega) (by omega) hp, Or.inr (Or.inr (Or.inr ⟨by omega, by omega, rfl, rfl, rfl⟩))⟩
theorem times_any (x y : Nat) (hx : x < 18446744073709551616) (hy : y < 18446744073709551616) : ∃ m f ok, Same 9 #[.int .u64 x, .int .u64 y] (.tuple #[.int .i64 m, .int .i64 f]) ∧
    Same 10 #[.int .u64 x, .int .u64 y] (.tuple #[.int .i64 m, .bool ok]) ∧ ((ok = true ∧ f = 0) ∨ (ok = false ∧ f = 14)) := by
  by_cases h : x * y ≤ 1099511627776
  · by_cases hz : x = 0 ∨ y = 0
    · have e : x * y = 0 := by rcases hz with rfl | rfl <;> simp
      refine ⟨0, 0, true, fun W => ?_, fun W => rtimes_zero x y W hz, Or.inl ⟨rfl, rfl⟩⟩
      have := times_yes x y hx hy W h
      rwa [e] at this
    · exact ⟨_, 0, true, fun W => times_yes x y hx hy W h, fun W => rtimes_yes x y W (by omega) (by omega) h, Or.inl ⟨rfl, rfl⟩⟩
  · exact ⟨0, 14, false, fun W => times_no x y hx hy W (by omega), fun W => rtimes_no x y W (by omega), Or.inr ⟨rfl, rfl⟩⟩

theorem requests_any (X Y : Int) (w : World) (hX : 0 ≤ X ∧ X ≤ 18446744073709551615) (hY : 0 ≤ Y ∧ Y ≤ 18446744073709551615) :
    Calls Try.prog 3 #[.int .u64 X, .int .u64 Y] w fun e w' => e = .returned (.bool true) ∧ w = w' := by
  obtain ⟨x, rfl⟩ := Int.eq_ofNat_of_zero_le hX.1
  obtain ⟨y, rfl⟩ := Int.eq_ofNat_of_zero_le hY.1
  obtain ⟨n, e, g1, c1⟩ := of_any x hX.1
  obtain ⟨m, f, ok, g2, g3, c2⟩ := times_any x y (by omega) (by omega)
  obtain ⟨k, g, g4, c3⟩ := align_any x hX.1
  exact requests_walk x y n e m f k g ok w hX.1 hX.2 g1 g2 g3 g4 c1 c2 c3

end Go.Proofs.Ytbmmnapcbhbhkaa
