/-
  The walk of the statement on cuts and turns of numbers.
-/
import Derived.Test.YtlkphjbnjeelaaaAlive
namespace Go.Proofs.Ytlkphjbnjeelaaa
open Go.RowKit

/-- A call that answers one value and leaves the world. -/
def Same (f : Nat) (args : Array Value) (v : Value) : Prop := ∀ W : World, Calls Try.prog f args W fun e w' => e = .returned v ∧ W = w'
/-- A call that answers one value and leaves the world, draws aside. -/
def Drew (f : Nat) (args : Array Value) (v : Value) : Prop := ∀ W : World, Calls Try.prog f args W fun e w' => e = .returned v ∧ ∃ k, w' = W.drewN k

set_option maxRecDepth 100000 in
set_option maxHeartbeats 4000000 in
theorem cuts_walk (X n d SA b c r SX : Int) (ok may f1 f2 : Bool) (w : World)
    (g1 : Same 14 #[.int .u64 X, .int .i64 n] (.tuple #[.int .i64 SA, .bool ok])) (g2 : Same 15 #[.int .u64 X, .int .i64 n, .bool true] (.tuple #[.int .u64 b, .bool ok]))
    (g3 : Same 16 #[.int .i64 SX, .int .i64 n] (.tuple #[.int .u64 c, .bool ok])) (g4 : Same 15 #[.int .u64 X, .int .i64 n, .bool false] (.tuple #[.int .u64 c, .bool ok]))
    (g5 : Drew 17 #[.int .u64 X, .int .i64 n, .int .i64 d] (.tuple #[.int .u64 r, .bool may])) (g6 : Drew 18 #[.int .u64 X, .int .i64 n, .int .i64 d] (.tuple #[.int .u64 r, .bool may]))
    (g7 : Same 19 #[.int .i64 SX, .int .i64 n, .bool true] (.bool f1)) (g8 : Same 19 #[.int .i64 SX, .int .i64 n, .bool false] (.bool f2))
    (x1 : wrap64 X = SX) (x2 : IntKind.u64.wrap SA = b) (k1 : f1 = (ok && (b == X))) (k2 : f2 = (ok && (c == X) && decide (0 ≤ SX))) :
    Calls Try.prog 4 #[.int .u64 X, .int .i64 n, .int .i64 d] w fun e w' => e = .returned (.bool true) ∧ Below w.heap.size w w' := by
  have G1 := Lib.hid g1
  have G2 := Lib.hid g2
  have G3 := Lib.hid g3
  have G4 := Lib.hid g4
  have G5 := Lib.hid g5
  have G6 := Lib.hid g6
  have G7 := Lib.hid g7
  have G8 := Lib.hid g8
  have K1 := Lib.hid k1
  have K2 := Lib.hid k2
  clear g1 g2 g3 g4 g5 g6 g7 g8 k1 k2
  go_enter Try.func4, Try.ntmps4
  go_wp2_with fail
  refine (alive_any _).mono ?_
  rintro e w1 ⟨rfl, hb1⟩
  go_wp2_with fail
  refine (G1.out _).mono ?_
  rintro e w2 ⟨rfl, rfl⟩
  go_wp2_with fail
  refine (G2.out _).mono ?_
  rintro e w2 ⟨rfl, rfl⟩
  go_wp2_with fail
  refine (G3.out _).mono ?_
  rintro e w2 ⟨rfl, rfl⟩
  go_wp2_with fail
  refine (G4.out _).mono ?_
  rintro e w2 ⟨rfl, rfl⟩
  go_wp2_with fail
  refine (G5.out _).mono ?_
  rintro e w2 ⟨rfl, k5, rfl⟩
  go_wp2_with fail
  refine (G6.out _).mono ?_
  rintro e w2 ⟨rfl, k6, rfl⟩
  go_wp2_with fail
  refine (G7.out _).mono ?_
  rintro e w2 ⟨rfl, rfl⟩
  cases ok
  · obtain rfl : f1 = false := K1.out.trans (by simp)
    obtain rfl : f2 = false := K2.out.trans (by simp)
    go_wp2_with fail
    refine (G8.out _).mono ?_
    rintro e w2 ⟨rfl, rfl⟩
    go_wp2
    go_ret
    exact ⟨rfl, up_drew hb1 _⟩
  · by_cases t1 : (b == X) = true
    · obtain rfl : f1 = true := K1.out.trans (by rw [t1]; rfl)
      by_cases t2 : (c == X) = true
      · by_cases t3 : 0 ≤ SX
        · obtain rfl : f2 = true := K2.out.trans (by simp [t2, t3])
          go_wp2_with fail
          refine (G8.out _).mono ?_
          rintro e w2 ⟨rfl, rfl⟩
          go_wp2
          go_ret
          exact ⟨rfl, up_drew hb1 _⟩
        · have t3' : decide (0 ≤ SX) = false := by simpa using t3
          obtain rfl : f2 = false := K2.out.trans (by rw [t3']; simp)
          go_wp2_with fail
          refine (G8.out _).mono ?_
          rintro e w2 ⟨rfl, rfl⟩
          go_wp2
          go_ret
          exact ⟨rfl, up_drew hb1 _⟩
      · have t2' : (c == X) = false := by simpa using t2
        obtain rfl : f2 = false := K2.out.trans (by rw [t2']; simp)
        go_wp2_with fail
        refine (G8.out _).mono ?_
        rintro e w2 ⟨rfl, rfl⟩
        go_wp2
        go_ret
        exact ⟨rfl, up_drew hb1 _⟩
    · have t1' : (b == X) = false := by simpa using t1
      obtain rfl : f1 = false := K1.out.trans (by rw [t1']; rfl)
      by_cases t2 : (c == X) = true
      · by_cases t3 : 0 ≤ SX
        · obtain rfl : f2 = true := K2.out.trans (by simp [t2, t3])
          go_wp2_with fail
          refine (G8.out _).mono ?_
          rintro e w2 ⟨rfl, rfl⟩
          go_wp2
          go_ret
          exact ⟨rfl, up_drew hb1 _⟩
        · have t3' : decide (0 ≤ SX) = false := by simpa using t3
          obtain rfl : f2 = false := K2.out.trans (by rw [t3']; simp)
          go_wp2_with fail
          refine (G8.out _).mono ?_
          rintro e w2 ⟨rfl, rfl⟩
          go_wp2
          go_ret
          exact ⟨rfl, up_drew hb1 _⟩
      · have t2' : (c == X) = false := by simpa using t2
        obtain rfl : f2 = false := K2.out.trans (by rw [t2']; simp)
        go_wp2_with fail
        refine (G8.out _).mono ?_
        rintro e w2 ⟨rfl, rfl⟩
        go_wp2
        go_ret
        exact ⟨rfl, up_drew hb1 _⟩

theorem cuts_any (x : BitVec 64) (n d : Int) (w : World) :
    Calls Try.prog 4 #[.int .u64 (u x), .int .i64 n, .int .i64 d] w fun e w' => e = .returned (.bool true) ∧ Below w.heap.size w w' := by
  by_cases hn : 1 ≤ n ∧ n ≤ 64
  · obtain ⟨h0, h1⟩ := hn
    obtain ⟨N, rfl⟩ := Int.eq_ofNat_of_zero_le (by omega : 0 ≤ n)
    have a1 : 1 ≤ N := by omega
    have a2 : N ≤ 64 := by omega
    have kk : (decide (0 ≤ sg x) && (unsW x N == x)) = (true && (u (unsW x N) == u x) && decide (0 ≤ sg x)) := by rw [u_beq, Bool.true_and, Bool.and_comm]
    by_cases hv : fits x N = true
    · exact cuts_walk (u x) N d (sg (signW x N)) (u (signW x N)) (u (unsW x N)) (u (turnW x N d)) (sg x) true true _ _ w
        (fun W => signed_yes x N W h0 h1) (fun W => cut_s x N W a1 a2) (fun W => unsigned_yes x N W h0 h1) (fun W => cut_u x N W a1 a2)
        (fun W => rotate_yes x N d W h0 h1 hv) (fun W => rrotate_yes x N d W a1 a2 hv) (fun W => fitsS_yes x N W h0 h1) (fun W => fitsU_yes x N W h0 h1)
        (wrap64_u x) (u_of_sg _) (by rw [u_beq]; rfl) kk
    · have hv' : fits x N = false := by simpa using hv
      exact cuts_walk (u x) N d (sg (signW x N)) (u (signW x N)) (u (unsW x N)) 0 (sg x) true false _ _ w
        (fun W => signed_yes x N W h0 h1) (fun W => cut_s x N W a1 a2) (fun W => unsigned_yes x N W h0 h1) (fun W => cut_u x N W a1 a2)
        (fun W => rotate_wide x N d W h0 h1 hv') (fun W => rrotate_wide x N d W (by omega) h1 hv') (fun W => fitsS_yes x N W h0 h1) (fun W => fitsU_yes x N W h0 h1)
        (wrap64_u x) (u_of_sg _) (by rw [u_beq]; rfl) kk
  · have hn' : n < 1 ∨ 64 < n := by omega
    exact cuts_walk (u x) n d 0 0 0 0 (sg x) false false false false w
      (fun W => signed_no x n W hn') (fun W => cut_no x n true W hn') (fun W => unsigned_no x n W hn') (fun W => cut_no x n false W hn')
      (fun W => rotate_no x n d W hn') (fun W => rrotate_no x n d W hn') (fun W => fits_no x n true W hn') (fun W => fits_no x n false W hn')
      (wrap64_u x) rfl rfl rfl

end Go.Proofs.Ytlkphjbnjeelaaa
