/-
  The walk of the statement on what is rounded.
-/
import Derived.Test.YtbmmnapcbhbhkaaAlive
namespace Go.Proofs.Ytbmmnapcbhbhkaa
open Go.RowKit

set_option maxRecDepth 100000 in
theorem between_no (n m p : Int) (w : World) (h : sizeB n = false ∨ powB p = false) : Calls Try.prog 5 #[.int .i64 n, .int .i64 m, .int .i64 p] w fun e w' => e = .returned (.bool true) ∧ w = w' := by
  have H := Lib.hid h
  clear h
  go_enter Try.func5, Try.ntmps5
  go_wp2_with (first | (go_at_call 7; refine (alive_any _).mono ?_; rintro e w' ⟨rfl, rfl⟩) | (go_at_call 13; refine (up_no _ _ _ H.out).mono ?_; rintro e w' ⟨rfl, rfl⟩) | (go_at_call 15; refine (down_no _ _ _ H.out).mono ?_; rintro e w' ⟨rfl, rfl⟩))
  go_ret
  exact ⟨rfl, rfl⟩

set_option maxRecDepth 100000 in
set_option maxHeartbeats 2000000 in
theorem between_walk (n m p a d x E : Int) (b1 b2 : Bool) (w : World)
    (g1 : Same 13 #[.int .i64 n, .int .i64 p] (.tuple #[.int .i64 a, .int .i64 0])) (g2 : Same 15 #[.int .i64 n, .int .i64 p] (.tuple #[.int .i64 d, .int .i64 0]))
    (g3 : Same 13 #[.int .i64 a, .int .i64 p] (.tuple #[.int .i64 a, .int .i64 0])) (g4 : Same 15 #[.int .i64 d, .int .i64 p] (.tuple #[.int .i64 d, .int .i64 0]))
    (g5 : Same 13 #[.int .i64 m, .int .i64 p] (.tuple #[.int .i64 x, .int .i64 E]))
    (n0 : 0 ≤ n) (n1 : n ≤ 1099511627776) (p0 : 1 ≤ p) (p1 : p ≤ 1099511627776) (a1 : a ≤ 1099511627776) (d0 : 0 ≤ d)
    (q1 : n ≤ a) (q2 : a < n + p) (q3 : d ≤ n) (q4 : n < d + p) (r1 : a.tmod p = 0) (r2 : d.tmod p = 0)
    (k : a - d = 0 ∨ a - d = p) (hE : (E != 0) = b1) (hm : decide (m < n) = b2) (hx : b1 = false → b2 = false → a ≤ x) :
    Calls Try.prog 5 #[.int .i64 n, .int .i64 m, .int .i64 p] w fun e w' => e = .returned (.bool true) ∧ w = w' := by
  have c1 : decide (p ≤ a - n) = false := by simp; omega
  have c2 : decide (p ≤ n - d) = false := by simp; omega
  have c3 : decide (a < n) = false := by simp; omega
  have c4 : decide (n < d) = false := by simp; omega
  have G1 := Lib.hid g1
  have G2 := Lib.hid g2
  have G3 := Lib.hid g3
  have G4 := Lib.hid g4
  have G5 := Lib.hid g5
  have HX := Lib.hid hx
  have a0 : 0 ≤ a := by omega
  have d1 : d ≤ 1099511627776 := by omega
  have k' : ((a - d != 0) = false) ∨ ((a - d != 0) = true ∧ (a - d != p) = false) := by
    rcases k with k | k
    · left; simp [k]
    · right; constructor
      · simp; omega
      · simp [k]
  clear g1 g2 g3 g4 g5 hx k q1 q2 q3 q4
  go_enter Try.func5, Try.ntmps5
  go_wp2_with fail
  refine (alive_any _).mono ?_
  rintro e w' ⟨rfl, rfl⟩
  go_wp2_with fail
  refine (G1.out _).mono ?_
  rintro e w' ⟨rfl, rfl⟩
  go_wp2_with fail
  refine (G2.out _).mono ?_
  rintro e w' ⟨rfl, rfl⟩
  go_wp2_with fail
  refine (G3.out _).mono ?_
  rintro e w' ⟨rfl, rfl⟩
  go_wp2_with fail
  refine (G4.out _).mono ?_
  rintro e w' ⟨rfl, rfl⟩
  rcases k' with k1 | ⟨k1, k2⟩
  all_goals
    go_wp2_with fail
    refine (G5.out _).mono ?_
    rintro e w' ⟨rfl, rfl⟩
    cases b1
    · cases b2
      · have x1 : decide (a ≤ x) = true := by simpa using HX.out rfl rfl
        go_wp2
        go_ret
        exact ⟨rfl, rfl⟩
      · go_wp2
        go_ret
        exact ⟨rfl, rfl⟩
    · go_wp2
      go_ret
      exact ⟨rfl, rfl⟩

theorem between_any (n m p : Int) (w : World) : Calls Try.prog 5 #[.int .i64 n, .int .i64 m, .int .i64 p] w fun e w' => e = .returned (.bool true) ∧ w = w' := by
  cases hn : sizeB n
  · exact between_no n m p w (Or.inl hn)
  cases hp : powB p
  · exact between_no n m p w (Or.inr hp)
  obtain ⟨n0, n1⟩ := sizeB_iff.1 hn
  obtain ⟨p0, p1⟩ := powB_bd hp
  have us := up_spec n p0
  have ds := down_spec n p0
  have uz := up_size hp n1
  have dn := down_nonneg p0 n0
  have g3 : Same 13 #[.int .i64 (up n p), .int .i64 p] (.tuple #[.int .i64 (up n p), .int .i64 0]) := fun W => by
    have := up_yes (up n p) p W (sizeB_iff.2 (by omega)) hp
    rwa [up_up n p0] at this
  have g4 : Same 15 #[.int .i64 (down n p), .int .i64 p] (.tuple #[.int .i64 (down n p), .int .i64 0]) := fun W => by
    have := down_yes (down n p) p W (sizeB_iff.2 (by omega)) hp
    rwa [down_down n p0] at this
  cases hm : sizeB m
  · exact between_walk n m p (up n p) (down n p) 0 11 true _ w (fun W => up_yes n p W hn hp) (fun W => down_yes n p W hn hp) g3 g4 (fun W => up_no m p W (Or.inl hm))
      n0 n1 p0 p1 uz dn us.1 us.2 ds.1 ds.2 (up_rem n p0 n0) (down_rem n p0 n0) (up_down n p0) rfl rfl (fun h => by cases h)
  · exact between_walk n m p (up n p) (down n p) (up m p) 0 false _ w (fun W => up_yes n p W hn hp) (fun W => down_yes n p W hn hp) g3 g4 (fun W => up_yes m p W hm hp)
      n0 n1 p0 p1 uz dn us.1 us.2 ds.1 ds.2 (up_rem n p0 n0) (down_rem n p0 n0) (up_down n p0) rfl rfl (fun _ h => up_mono p0 (by simpa using h))

end Go.Proofs.Ytbmmnapcbhbhkaa
