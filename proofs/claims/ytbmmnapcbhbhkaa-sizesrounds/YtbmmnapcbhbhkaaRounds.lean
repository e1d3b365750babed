/-
  The walk of the statement on Up, Down, Power, Log, Grain, Pages and Narrow.
-/
import Derived.Test.YtbmmnapcbhbhkaaAlive
import Derived.Test.YtbmmnapcbhbhkaaRefs
namespace Go.Proofs.Ytbmmnapcbhbhkaa
open Go.RowKit

set_option maxRecDepth 100000 in
set_option maxHeartbeats 4000000 in
theorem rounds_walk (n p a e d g P h v l r q : Int) (ok pw : Bool) (w : World) (n0 : -9223372036854775808 ≤ n) (n1 : n ≤ 9223372036854775807)
    (g1 : Same 13 #[.int .i64 n, .int .i64 p] (.tuple #[.int .i64 a, .int .i64 e])) (g2 : Same 14 #[.int .i64 n, .int .i64 p] (.tuple #[.int .i64 a, .int .i64 e]))
    (g3 : Same 15 #[.int .i64 n, .int .i64 p] (.tuple #[.int .i64 d, .int .i64 g])) (g4 : Same 16 #[.int .i64 n] (.tuple #[.int .i64 P, .int .i64 h]))
    (g5 : Same 17 #[.int .i64 n] (.tuple #[.int .u16 v, .bool ok])) (g6 : Same 18 #[.int .i64 p] (.bool pw)) (g7 : Same 12 #[.int .i64 p] (.bool pw))
    (g8 : Same 19 #[.int .i64 n] (.int .i64 l)) (g9 : Same 20 #[.int .i64 n] (.int .i64 l)) (g10 : Same 21 #[.int .i64 n] (.int .i64 r)) (g11 : Same 22 #[.int .i64 n] (.int .i64 r))
    (c : (n < 0 ∧ v = 0 ∧ ok = false ∧ g = 11 ∧ h = 11 ∧ d = 0 ∧ P = 0) ∨ (1099511627776 < n ∧ v = 0 ∧ ok = false ∧ g = 11 ∧ h = 11 ∧ d = 0 ∧ P = 0) ∨
      (0 ≤ n ∧ n ≤ 1099511627776 ∧ (n ≤ 65535 ∧ n = v ∧ ok = true ∨ 65535 < n ∧ v = 0 ∧ ok = false) ∧ h = 0 ∧ (n + 255).tdiv 256 = q ∧ (q = 0 ∧ P = 1 ∨ 1 ≤ q ∧ P = q) ∧ q ≤ 4294967297 ∧
        (pw = false ∧ g = 11 ∧ d = 0 ∨ pw = true ∧ g = 0 ∧ 1 ≤ p ∧ p ≤ 1099511627776 ∧ wrap64 (n - n % p) = d))) :
    Calls Try.prog 4 #[.int .i64 n, .int .i64 p] w fun e w' => e = .returned (.bool true) ∧ w = w' := by
  have G1 := Lib.hid g1
  have G2 := Lib.hid g2
  have G3 := Lib.hid g3
  have G4 := Lib.hid g4
  have G5 := Lib.hid g5
  have G6 := Lib.hid g6
  have G7 := Lib.hid g7
  have G8 := Lib.hid g8
  have G9 := Lib.hid g9
  have G10 := Lib.hid g10
  have G11 := Lib.hid g11
  clear g1 g2 g3 g4 g5 g6 g7 g8 g9 g10 g11
  rcases c with ⟨c0, rfl, rfl, rfl, rfl, rfl, rfl⟩ | ⟨c0, rfl, rfl, rfl, rfl, rfl, rfl⟩ | ⟨c0, c1, cw, rfl, cq, cp, q1, cd⟩
  · have t1 : decide (0 ≤ n) = false := by simpa using c0
    have t2 : decide (n < 0) = true := by simpa using c0
    go_enter Try.func4, Try.ntmps4
    go_wp2_with (first | (go_at_call 7; refine (alive_any _).mono ?_; rintro e w' ⟨rfl, rfl⟩) | (go_at_call 13; refine (G1.out _).mono ?_; rintro e w' ⟨rfl, rfl⟩) | (go_at_call 14; refine (G2.out _).mono ?_; rintro e w' ⟨rfl, rfl⟩) | (go_at_call 15; refine (G3.out _).mono ?_; rintro e w' ⟨rfl, rfl⟩) | (go_at_call 16; refine (G4.out _).mono ?_; rintro e w' ⟨rfl, rfl⟩) | (go_at_call 17; refine (G5.out _).mono ?_; rintro e w' ⟨rfl, rfl⟩) | (go_at_call 18; refine (G6.out _).mono ?_; rintro e w' ⟨rfl, rfl⟩) | (go_at_call 12; refine (G7.out _).mono ?_; rintro e w' ⟨rfl, rfl⟩) | (go_at_call 19; refine (G8.out _).mono ?_; rintro e w' ⟨rfl, rfl⟩) | (go_at_call 20; refine (G9.out _).mono ?_; rintro e w' ⟨rfl, rfl⟩) | (go_at_call 21; refine (G10.out _).mono ?_; rintro e w' ⟨rfl, rfl⟩) | (go_at_call 22; refine (G11.out _).mono ?_; rintro e w' ⟨rfl, rfl⟩))
    go_ret
    exact ⟨rfl, rfl⟩
  · have t1 : decide (0 ≤ n) = true := by simp; omega
    have t2 : decide (n < 0) = false := by simp; omega
    have t3 : decide (n ≤ 65535) = false := by simp; omega
    have t4 : decide (1099511627776 < n) = true := by simpa using c0
    go_enter Try.func4, Try.ntmps4
    go_wp2_with (first | (go_at_call 7; refine (alive_any _).mono ?_; rintro e w' ⟨rfl, rfl⟩) | (go_at_call 13; refine (G1.out _).mono ?_; rintro e w' ⟨rfl, rfl⟩) | (go_at_call 14; refine (G2.out _).mono ?_; rintro e w' ⟨rfl, rfl⟩) | (go_at_call 15; refine (G3.out _).mono ?_; rintro e w' ⟨rfl, rfl⟩) | (go_at_call 16; refine (G4.out _).mono ?_; rintro e w' ⟨rfl, rfl⟩) | (go_at_call 17; refine (G5.out _).mono ?_; rintro e w' ⟨rfl, rfl⟩) | (go_at_call 18; refine (G6.out _).mono ?_; rintro e w' ⟨rfl, rfl⟩) | (go_at_call 12; refine (G7.out _).mono ?_; rintro e w' ⟨rfl, rfl⟩) | (go_at_call 19; refine (G8.out _).mono ?_; rintro e w' ⟨rfl, rfl⟩) | (go_at_call 20; refine (G9.out _).mono ?_; rintro e w' ⟨rfl, rfl⟩) | (go_at_call 21; refine (G10.out _).mono ?_; rintro e w' ⟨rfl, rfl⟩) | (go_at_call 22; refine (G11.out _).mono ?_; rintro e w' ⟨rfl, rfl⟩))
    go_ret
    exact ⟨rfl, rfl⟩
  · have t1 : decide (0 ≤ n) = true := by simpa using c0
    have t2 : decide (n < 0) = false := by simpa using c0
    have t4 : decide (1099511627776 < n) = false := by simpa using c1
    have cw' : decide (n ≤ 65535) = true ∧ n ≤ 65535 ∧ n = v ∧ ok = true ∨ decide (n ≤ 65535) = false ∧ v = 0 ∧ ok = false := by
      rcases cw with ⟨x, y, z⟩ | ⟨x, y, z⟩
      · exact Or.inl ⟨by simpa using x, x, y, z⟩
      · exact Or.inr ⟨by simpa using x, y, z⟩
    clear cw
    rcases cw' with ⟨t3, t5, rfl, rfl⟩ | ⟨t3, rfl, rfl⟩
    all_goals rcases cd with ⟨rfl, rfl, rfl⟩ | ⟨rfl, rfl, p0, p1, hd⟩
    all_goals rcases cp with ⟨rfl, rfl⟩ | ⟨q0, rfl⟩
    all_goals
      go_enter Try.func4, Try.ntmps4
      go_wp2_with (first | (go_at_call 7; refine (alive_any _).mono ?_; rintro e w' ⟨rfl, rfl⟩) | (go_at_call 13; refine (G1.out _).mono ?_; rintro e w' ⟨rfl, rfl⟩) | (go_at_call 14; refine (G2.out _).mono ?_; rintro e w' ⟨rfl, rfl⟩) | (go_at_call 15; refine (G3.out _).mono ?_; rintro e w' ⟨rfl, rfl⟩) | (go_at_call 16; refine (G4.out _).mono ?_; rintro e w' ⟨rfl, rfl⟩) | (go_at_call 17; refine (G5.out _).mono ?_; rintro e w' ⟨rfl, rfl⟩) | (go_at_call 18; refine (G6.out _).mono ?_; rintro e w' ⟨rfl, rfl⟩) | (go_at_call 12; refine (G7.out _).mono ?_; rintro e w' ⟨rfl, rfl⟩) | (go_at_call 19; refine (G8.out _).mono ?_; rintro e w' ⟨rfl, rfl⟩) | (go_at_call 20; refine (G9.out _).mono ?_; rintro e w' ⟨rfl, rfl⟩) | (go_at_call 21; refine (G10.out _).mono ?_; rintro e w' ⟨rfl, rfl⟩) | (go_at_call 22; refine (G11.out _).mono ?_; rintro e w' ⟨rfl, rfl⟩))
      go_ret
      exact ⟨rfl, rfl⟩

theorem rounds_no (n p : Int) (w : World) (n0 : -9223372036854775808 ≤ n) (n1 : n ≤ 9223372036854775807) (hn : sizeB n = false) :
    Calls Try.prog 4 #[.int .i64 n, .int .i64 p] w fun e w' => e = .returned (.bool true) ∧ w = w' := by
  have hs := sizeB_not.1 hn
  exact rounds_walk n p 0 11 0 11 0 11 0 (log n) (grain n) 0 false (powB p) w n0 n1 (fun W => up_no n p W (Or.inl hn)) (fun W => rup_no n p W (Or.inl hn)) (fun W => down_no n p W (Or.inl hn)) (fun W => pages_no n W hn)
    (fun W => narrow_no n W (by omega)) (fun W => power_any p W) (fun W => rpower_any p W) (fun W => log_any n W n1) (fun W => rlog_any n W n1) (fun W => grain_any n W n1) (fun W => rgrain_any n W n1)
    (by
      by_cases h : n < 0
      · exact Or.inl ⟨h, rfl, rfl, rfl, rfl, rfl, rfl⟩
      · exact Or.inr (Or.inl ⟨by omega, rfl, rfl, rfl, rfl, rfl, rfl⟩))
theorem narrow_any (n : Int) (h0 : 0 ≤ n) : ∃ v ok, Same 17 #[.int .i64 n] (.tuple #[.int .u16 v, .bool ok]) ∧ (n ≤ 65535 ∧ n = v ∧ ok = true ∨ 65535 < n ∧ v = 0 ∧ ok = false) := by
  by_cases h : n ≤ 65535
  · exact ⟨n, true, fun W => narrow_yes n W h0 h, Or.inl ⟨h, rfl, rfl⟩⟩
  · exact ⟨0, false, fun W => narrow_no n W (by omega), Or.inr ⟨by omega, rfl, rfl⟩⟩
theorem pages_cases (n : Int) (h0 : 0 ≤ n) (h1 : n ≤ 1099511627776) : ∃ q, (n + 255).tdiv 256 = q ∧ (q = 0 ∧ pages n = 1 ∨ 1 ≤ q ∧ pages n = q) ∧ q ≤ 4294967297 := by
  refine ⟨(n + 255) / 256, Int.tdiv_eq_ediv_of_nonneg (by omega), ?_, by omega⟩
  unfold pages
  omega
theorem rounds_any (n p : Int) (w : World) (hb : -9223372036854775808 ≤ n ∧ n ≤ 9223372036854775807) :
    Calls Try.prog 4 #[.int .i64 n, .int .i64 p] w fun e w' => e = .returned (.bool true) ∧ w = w' := by
  obtain ⟨n0, n1⟩ := hb
  cases hn : sizeB n
  · exact rounds_no n p w n0 n1 hn
  obtain ⟨h0, h1⟩ := sizeB_iff.1 hn
  obtain ⟨v, ok, g5, cw⟩ := narrow_any n h0
  obtain ⟨q, cq, cp, q1⟩ := pages_cases n h0 h1
  cases hp : powB p
  · exact rounds_walk n p 0 11 0 11 (pages n) 0 v (log n) (grain n) q ok false w n0 n1 (fun W => up_no n p W (Or.inr hp)) (fun W => rup_no n p W (Or.inr hp)) (fun W => down_no n p W (Or.inr hp)) (fun W => pages_yes n W hn)
      g5 (fun W => hp ▸ power_any p W) (fun W => hp ▸ rpower_any p W) (fun W => log_any n W n1) (fun W => rlog_any n W n1) (fun W => grain_any n W n1) (fun W => rgrain_any n W n1)
      (Or.inr (Or.inr ⟨h0, h1, cw, rfl, cq, cp, q1, Or.inl ⟨rfl, rfl, rfl⟩⟩))
  · obtain ⟨p0, p1⟩ := powB_bd hp
    have hd : wrap64 (n - n % p) = down n p := by
      rw [← Int.tmod_eq_emod_of_nonneg h0, down_tmod h0]
      have := down_spec n p0
      have := down_nonneg p0 h0
      unfold wrap64
      omega
    exact rounds_walk n p (up n p) 0 (down n p) 0 (pages n) 0 v (log n) (grain n) q ok true w n0 n1 (fun W => up_yes n p W hn hp) (fun W => rup_yes n p W hn hp) (fun W => down_yes n p W hn hp) (fun W => pages_yes n W hn)
      g5 (fun W => hp ▸ power_any p W) (fun W => hp ▸ rpower_any p W) (fun W => log_any n W n1) (fun W => rlog_any n W n1) (fun W => grain_any n W n1) (fun W => rgrain_any n W n1)
      (Or.inr (Or.inr ⟨h0, h1, cw, rfl, cq, cp, q1, Or.inr ⟨rfl, rfl, p0, p1, hd⟩⟩))

end Go.Proofs.Ytbmmnapcbhbhkaa
