/-
  What the references' Put does: contracts that the claimed proofs use.
-/
import Derived.Test.YtjjilnklcjgndaaAppend
namespace Go.Proofs.Ytjjilnklcjgndaa
open Go.RowKit

set_option maxHeartbeats 1000000 in
theorem rput_bad (g n m : Nat) (i x : Int) (f : Bool) (w : World) (c0 : w.cell? ⟨g + 1, 0, none⟩ = some (.int .i64 (n : Int))) (c1 : w.cell? ⟨g + 1, 1, none⟩ = some (.slice (some ⟨g, 0, none⟩) m m)) (hno : (hasB m i && hasB n x) = false) :
    Calls Try.prog 26 #[.pointer (some ⟨g + 1, 0, none⟩), .int .i64 i, .int .i64 x, .bool f] w fun e w' => e = .returned (.int .i64 11) ∧ w = w' := by
  by_cases h0 : i < 0
  · have d1 : decide (i < 0) = true := by simpa using h0
    go_enter Try.func26, Try.ntmps26
    go_wp2
    go_ret
    exact ⟨rfl, rfl⟩
  · have d1 : decide (i < 0) = false := by simpa using h0
    by_cases h1 : (m : Int) ≤ i
    · have d2 : decide ((m : Int) ≤ i) = true := by simpa using h1
      go_enter Try.func26, Try.ntmps26
      go_wp2
      go_ret
      exact ⟨rfl, rfl⟩
    · have d2 : decide ((m : Int) ≤ i) = false := by simpa using h1
      rw [hasB_iff.2 (by omega), Bool.true_and] at hno
      by_cases h2 : x < 0
      · have d3 : decide (x < 0) = true := by simpa using h2
        go_enter Try.func26, Try.ntmps26
        go_wp2
        go_ret
        exact ⟨rfl, rfl⟩
      · have d3 : decide (x < 0) = false := by simpa using h2
        have d4 : decide ((n : Int) ≤ x) = true := by simp; have := hasB_not.1 hno; omega
        go_enter Try.func26, Try.ntmps26
        go_wp2
        go_ret
        exact ⟨rfl, rfl⟩
theorem rput_there (g n m i x : Nat) (v k : Int) (f : Bool) (w : World) (c0 : w.cell? ⟨g + 1, 0, none⟩ = some (.int .i64 (n : Int))) (c1 : w.cell? ⟨g + 1, 1, none⟩ = some (.slice (some ⟨g, 0, none⟩) m m)) (hi : i < m) (hx : x < n) (hv : 0 ≤ v)
    (hin : Calls Try.prog 11 #[.pointer (some ⟨g + 1, 0, none⟩), .int .i64 (x : Int)] w fun e w' => e = .returned (.tuple #[.int .i64 v, .int .i64 k]) ∧ w = w') :
    Calls Try.prog 26 #[.pointer (some ⟨g + 1, 0, none⟩), .int .i64 (i : Int), .int .i64 (x : Int), .bool f] w fun e w' => e = .returned (.int .i64 15) ∧ w = w' := by
  have d1 : decide ((i : Int) < 0) = false := by simp
  have d2 : decide ((m : Int) ≤ (i : Int)) = false := by simp; omega
  have d3 : decide ((x : Int) < 0) = false := by simp
  have d4 : decide ((n : Int) ≤ (x : Int)) = false := by simp; omega
  have d5 : decide (0 ≤ v) = true := by simpa using hv
  have HI := Lib.hid hin
  clear hin
  go_enter Try.func26, Try.ntmps26
  go_wp2_with (go_at_call 11; refine HI.out.mono ?_; rintro e w' ⟨rfl, rfl⟩)
  go_ret
  exact ⟨rfl, rfl⟩
set_option maxHeartbeats 1000000 in
theorem rput_first (g n m i x N c : Nat) (A : Option Addr) (xs : List Nat) (w : World) (c0 : w.cell? ⟨g + 1, 0, none⟩ = some (.int .i64 (n : Int))) (c1 : w.cell? ⟨g + 1, 1, none⟩ = some (.slice (some ⟨g, 0, none⟩) m m)) (hi : i < m) (hx : x < n)
    (hin : Calls Try.prog 11 #[.pointer (some ⟨g + 1, 0, none⟩), .int .i64 (x : Int)] w fun e w' => e = .returned (.tuple #[.int .i64 (-1), .int .i64 (-1)]) ∧ w = w')
    (hv : w.cell? ⟨g, i, none⟩ = some (.slice A N c)) (hfz : w.frozen? ⟨g, i, none⟩ = false) (hN : xs.length = N) (hA : A = none → N = 0 ∧ c = 0) (hia : IA w.heap.size w A xs) (hl : N ≤ 4096) :
    Calls Try.prog 26 #[.pointer (some ⟨g + 1, 0, none⟩), .int .i64 (i : Int), .int .i64 (x : Int), .bool true] w fun e w' => e = .returned (.int .i64 0) ∧
      ∃ g' cap wd, wd.ownsRow w.heap.size 3 1 (.slice (some ⟨g', 0, none⟩) (1 + N) cap) (1 + N) (irow ([x] ++ xs)) ∧ Below w.heap.size w wd ∧ Drawn (wd.setCell ⟨g, i, none⟩ (.slice (some ⟨g', 0, none⟩) (1 + N) cap)) w' := by
  have d1 : decide ((i : Int) < 0) = false := by simp
  have d2 : decide ((m : Int) ≤ (i : Int)) = false := by simp; omega
  have d3 : decide ((x : Int) < 0) = false := by simp
  have d4 : decide ((n : Int) ≤ (x : Int)) = false := by simp; omega
  have b1 : (0 : Int) ≤ (i : Int) := by omega
  have b2 : (i : Int) < (m : Int) := by omega
  have HI := Lib.hid hin
  have l1 := World.block_lt_of_cell? w _ c1
  have l2 := World.block_lt_of_cell? w _ hv
  have HOwn := Lib.hid (own_single w.drew x)
  have HN := Lib.hid hN
  have HA := Lib.hid hA
  have HIA := Lib.hid hia
  have hal : Below w.heap.size w (w.alloc (.cells #[.int .i64 (x : Int)] 3)) := up_alloc (Below.refl _ _) _
  have c1a := (hal.cell (p := ⟨g + 1, 1, none⟩) l1).trans c1
  have hva := (hal.cell (p := ⟨g, i, none⟩) l2).trans hv
  have HAl := Lib.hid hal.drew
  clear hin hN hA hia hal
  go_enter Try.func26, Try.ntmps26
  go_wp2_with (go_at_call 11; refine HI.out.mono ?_; rintro e w' ⟨rfl, rfl⟩)
  go_region_law (refine step_app (by rfl) _ _ (by rfl) w.heap.size w.heap.size 1 1 N c w.heap.size [x] xs A (by simp [Act.eval]) HOwn.out (by simp [Act.eval]) HN.out HA.out (HIA.out.below HAl.out) (by omega) (by simp) ?_; intro g' cap' w' HO2 HB2 _; have c1b := (HB2.out.cell (p := ⟨g + 1, 1, none⟩) l1).trans c1a; have hvb := (HB2.out.cell (p := ⟨g, i, none⟩) l2).trans hva; have hfb := (HB2.out.frozen (p := ⟨g, i, none⟩) l2).trans ((HAl.out.frozen (p := ⟨g, i, none⟩) l2).trans hfz))
  all_goals go_wp2
  all_goals go_ret
  all_goals exact ⟨rfl, g', cap', w', HO2.out, HAl.out.trans HB2.out, Drawn.refl _⟩
end Go.Proofs.Ytjjilnklcjgndaa
