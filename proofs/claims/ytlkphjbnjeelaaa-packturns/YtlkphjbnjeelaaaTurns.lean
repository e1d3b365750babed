/-
  The walk of the statement on numbers that are turned there and back.
-/
import Derived.Test.YtlkphjbnjeelaaaCuts
namespace Go.Proofs.Ytlkphjbnjeelaaa
open Go.RowKit

theorem turns_out (X n a b SX : Int) (w : World) (g1 : Same 16 #[.int .i64 SX, .int .i64 n] (.tuple #[.int .u64 0, .bool false])) (x1 : wrap64 X = SX) :
    Calls Try.prog 6 #[.int .u64 X, .int .i64 n, .int .i64 a, .int .i64 b] w fun e w' => e = .returned (.bool true) ∧ Below w.heap.size w w' := by
  have G1 := Lib.hid g1
  clear g1
  go_enter Try.func6, Try.ntmps6
  go_wp2_with fail
  refine (alive_any _).mono ?_
  rintro e w1 ⟨rfl, hb1⟩
  go_wp2_with fail
  refine (G1.out _).mono ?_
  rintro e w2 ⟨rfl, rfl⟩
  go_wp2
  go_ret
  exact ⟨rfl, hb1⟩
set_option maxHeartbeats 1000000 in
theorem turns_far (X n a b SX V : Int) (w : World) (g1 : Same 16 #[.int .i64 SX, .int .i64 n] (.tuple #[.int .u64 V, .bool true])) (x1 : wrap64 X = SX) (h : a < -1000 ∨ 1000 < a ∨ b < -1000 ∨ 1000 < b) :
    Calls Try.prog 6 #[.int .u64 X, .int .i64 n, .int .i64 a, .int .i64 b] w fun e w' => e = .returned (.bool true) ∧ Below w.heap.size w w' := by
  have G1 := Lib.hid g1
  have HH := Lib.hid h
  clear g1 h
  go_enter Try.func6, Try.ntmps6
  go_wp2_with fail
  refine (alive_any _).mono ?_
  rintro e w1 ⟨rfl, hb1⟩
  go_wp2_with fail
  refine (G1.out _).mono ?_
  rintro e w2 ⟨rfl, rfl⟩
  by_cases t1 : a < -1000
  · go_wp2
    go_ret
    exact ⟨rfl, hb1⟩
  · have t1' : decide (a < -1000) = false := by simpa using t1
    by_cases t2 : 1000 < a
    · go_wp2
      go_ret
      exact ⟨rfl, hb1⟩
    · have t2' : decide (1000 < a) = false := by simpa using t2
      by_cases t3 : b < -1000
      · go_wp2
        go_ret
        exact ⟨rfl, hb1⟩
      · have t3' : decide (b < -1000) = false := by simpa using t3
        have t4 : 1000 < b := by have := HH.out; omega
        go_wp2
        go_ret
        exact ⟨rfl, hb1⟩
set_option maxRecDepth 100000 in
set_option maxHeartbeats 4000000 in
theorem turns_walk (X n a b SX V Y p SA SV : Int) (w : World) (g1 : Same 16 #[.int .i64 SX, .int .i64 n] (.tuple #[.int .u64 V, .bool true]))
    (g2 : Drew 17 #[.int .u64 V, .int .i64 n, .int .i64 a] (.tuple #[.int .u64 Y, .bool true])) (g3 : Drew 17 #[.int .u64 Y, .int .i64 n, .int .i64 (-a)] (.tuple #[.int .u64 V, .bool true]))
    (g4 : Drew 17 #[.int .u64 Y, .int .i64 n, .int .i64 b] (.tuple #[.int .u64 p, .bool true])) (g5 : Drew 17 #[.int .u64 V, .int .i64 n, .int .i64 (a + b)] (.tuple #[.int .u64 p, .bool true]))
    (g6 : Same 14 #[.int .u64 X, .int .i64 n] (.tuple #[.int .i64 SA, .bool true])) (g7 : Same 16 #[.int .i64 SA, .int .i64 n] (.tuple #[.int .u64 V, .bool true]))
    (g8 : Same 19 #[.int .i64 SA, .int .i64 n, .bool true] (.bool true)) (g9 : n ≠ 64 → Same 19 #[.int .i64 SV, .int .i64 n, .bool false] (.bool true))
    (x1 : wrap64 X = SX) (x2 : wrap64 V = SV) (a1 : -1000 ≤ a) (a2 : a ≤ 1000) (b1 : -1000 ≤ b) (b2 : b ≤ 1000) :
    Calls Try.prog 6 #[.int .u64 X, .int .i64 n, .int .i64 a, .int .i64 b] w fun e w' => e = .returned (.bool true) ∧ Below w.heap.size w w' := by
  have G1 := Lib.hid g1
  have G2 := Lib.hid g2
  have G3 := Lib.hid g3
  have G4 := Lib.hid g4
  have G5 := Lib.hid g5
  have G6 := Lib.hid g6
  have G7 := Lib.hid g7
  have G8 := Lib.hid g8
  have G9 := Lib.hid g9
  clear g1 g2 g3 g4 g5 g6 g7 g8 g9
  have t1 : decide (a < -1000) = false := by simp; omega
  have t2 : decide (1000 < a) = false := by simp; omega
  have t3 : decide (b < -1000) = false := by simp; omega
  have t4 : decide (1000 < b) = false := by simp; omega
  go_enter Try.func6, Try.ntmps6
  go_wp2_with fail
  refine (alive_any _).mono ?_
  rintro e w1 ⟨rfl, hb1⟩
  go_wp2_with fail
  refine (G1.out _).mono ?_
  rintro e w2 ⟨rfl, rfl⟩
  go_wp2_with fail
  refine (G2.out _).mono ?_
  rintro e w2 ⟨rfl, k2, rfl⟩
  go_wp2_with fail
  refine (G3.out _).mono ?_
  rintro e w2 ⟨rfl, k3, rfl⟩
  go_wp2_with fail
  refine (G4.out _).mono ?_
  rintro e w2 ⟨rfl, k4, rfl⟩
  go_wp2_with fail
  refine (G5.out _).mono ?_
  rintro e w2 ⟨rfl, k5, rfl⟩
  go_wp2_with fail
  refine (G6.out _).mono ?_
  rintro e w2 ⟨rfl, rfl⟩
  go_wp2_with fail
  refine (G7.out _).mono ?_
  rintro e w2 ⟨rfl, rfl⟩
  go_wp2_with fail
  refine (G8.out _).mono ?_
  rintro e w2 ⟨rfl, rfl⟩
  by_cases hn : n = 64
  · have hd : (n == 64) = true := by simpa using hn
    have HN := Lib.hid hn
    clear hn
    go_wp2
    go_ret
    exact ⟨rfl, up_drew hb1 _⟩
  · have hd : (n == 64) = false := by simpa using hn
    have HN := Lib.hid hn
    clear hn
    go_wp2_with fail
    refine (G9.out HN.out _).mono ?_
    rintro e w2 ⟨rfl, rfl⟩
    go_wp2
    go_ret
    exact ⟨rfl, up_drew hb1 _⟩

theorem turns_any (x : BitVec 64) (n a b : Int) (w : World) :
    Calls Try.prog 6 #[.int .u64 (u x), .int .i64 n, .int .i64 a, .int .i64 b] w fun e w' => e = .returned (.bool true) ∧ Below w.heap.size w w' := by
  by_cases hn : 1 ≤ n ∧ n ≤ 64
  · obtain ⟨h0, h1⟩ := hn
    obtain ⟨N, rfl⟩ := Int.eq_ofNat_of_zero_le (by omega : 0 ≤ n)
    have a1 : 1 ≤ N := by omega
    have a2 : N ≤ 64 := by omega
    by_cases hf : a < -1000 ∨ 1000 < a ∨ b < -1000 ∨ 1000 < b
    · exact turns_far (u x) N a b (sg x) (u (unsW x N)) w (fun W => unsigned_yes x N W h0 h1) (wrap64_u x) hf
    · have hv := uns_fits x N a2
      have hv2 := turn_fits (unsW x N) N a a1 a2 hv
      have e3 : turnW (turnW (unsW x N) N a) N (-a) = unsW x N := by rw [turn_turn _ N a (-a) a1 a2 hv, Int.add_right_neg, turn_zero _ N a1 a2 hv]
      have e4 := turn_turn (unsW x N) N a b a1 a2 hv
      have e7 := sign_uns x N a1 a2
      have g3 := fun W => rotate_yes (turnW (unsW x N) N a) N (-a) W h0 h1 hv2
      have g4 := fun W => rotate_yes (turnW (unsW x N) N a) N b W h0 h1 hv2
      have g7 := fun W => unsigned_yes (signW x N) N W h0 h1
      have g8 := fun W => fitsS_yes (signW x N) N W h0 h1
      have g9 : (N : Int) ≠ 64 → Same 19 #[.int .i64 (sg (unsW x N)), .int .i64 N, .bool false] (.bool true) := fun hne W => by
        have h := fitsU_yes (unsW x N) N W h0 h1
        have e9 : (decide (0 ≤ sg (unsW x N)) && (unsW (unsW x N) (N : Int).toNat == unsW x N)) = true := by
          rw [decide_eq_true (uns_sg x N (by omega))]
          show (true && (unsW (unsW x N) N == unsW x N)) = true
          rw [uns_uns x N a2]; simp
        rw [e9] at h
        exact h
      refine turns_walk (u x) N a b (sg x) (u (unsW x N)) (u (turnW (unsW x N) N a)) (u (turnW (unsW x N) N (a + b))) (sg (signW x N)) (sg (unsW x N)) w
        (fun W => unsigned_yes x N W h0 h1) (fun W => rotate_yes (unsW x N) N a W h0 h1 hv) (fun W => ?_) (fun W => ?_) (fun W => rotate_yes (unsW x N) N (a + b) W h0 h1 hv)
        (fun W => signed_yes x N W h0 h1) (fun W => ?_) (fun W => ?_) g9 (wrap64_u x) (wrap64_u _) (by omega) (by omega) (by omega) (by omega)
      · have := g3 W; rw [show (N : Int).toNat = N from rfl, e3] at this; exact this
      · have := g4 W; rw [show (N : Int).toNat = N from rfl, e4] at this; exact this
      · have := g7 W; rw [show (N : Int).toNat = N from rfl, e7] at this; exact this
      · have := g8 W; rw [show (N : Int).toNat = N from rfl, sign_sign x N a1 a2, beq_self_eq_true] at this; exact this
  · exact turns_out (u x) n a b (sg x) w (fun W => unsigned_no x n W (by omega)) (wrap64_u x)

end Go.Proofs.Ytlkphjbnjeelaaa
