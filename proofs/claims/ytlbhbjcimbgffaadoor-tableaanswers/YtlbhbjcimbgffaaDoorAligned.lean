/-
  What Aligned and Class do: contracts that the claimed proofs use.
-/
import Derived.Test.YtlbhbjcimbgffaaDoorTable
namespace Go.Proofs.YtlbhbjcimbgffaaDoor
open Go.RowKit

theorem aligned_in (n a R : Int) (b : Bool) (w : World) (h0 : 0 ≤ n) (h1 : n ≤ 512) (ha : alignB a = true) (hT : Tab w) (hR : first n a = R) (hb : decide (0 ≤ R) = b) : Calls Tryd.prog 10 #[.int .i64 n, .int .i64 a] w fun e w' => e = .returned (.tuple #[.int .i64 R, .bool b]) ∧ w = w' := by
  obtain ⟨a0, a1⟩ := alignB_bd ha
  have HR := Lib.hid hR
  have HB := Lib.hid hb
  have d0 : decide (n < 0) = false := by simpa using h0
  have d1 : decide (512 < n) = false := by simpa using h1
  obtain ⟨t, fr, hT⟩ := hT
  have HT := Lib.hid hT
  clear hT hR hb
  go_enter Tryd.func10, Tryd.ntmps10
  go_wp2_with (first | (go_at_call 16; refine (isAlign_any _ _).mono ?_; rintro e w' ⟨rfl, rfl⟩) | (refine wpList_load_row rfl 33 (.global 0) rfl 0 rfl t row fr _ HT.out Tryd.underlying33 rfl (by kernel_rfl) ?_))
  go_loop [20] (fun i => ∃ k : Nat, k ≤ 16 ∧ noneTo n a k ∧ i = .int .i64 k) (fun i => 16 - (intOf i).toNat)
  case atStart => exact ⟨0, by omega, noneTo_zero n a, rfl⟩
  case round =>
    obtain ⟨k, hk, hn, rfl⟩ := hrel
    have HN := Lib.hid hn
    clear hn
    by_cases hlt : k < 16
    · have hi := row_index k hlt w
      obtain ⟨s0, s1⟩ := sz_bd k hlt
      obtain ⟨s, hs⟩ : ∃ s, sz k = s := ⟨_, rfl⟩
      rw [hs] at hi s0 s1
      have HS := Lib.hid hs
      clear hs
      by_cases hge : n ≤ s
      · have g1 : decide (n ≤ s) = true := by simpa using hge
        cases hr : (s % a == 0)
        · go_wp2
          go_round
          case rel => exact ⟨k + 1, by omega, noneTo_on HN.out (by unfold fits; rw [HS.out, g1, hr]; rfl), by go_num⟩
          case measure => simp [intOf]; omega
        · have e : R = (k : Int) := by rw [← HR.out]; exact first_hit h0 h1 HN.out hlt (by unfold fits; rw [HS.out, g1, hr]; rfl)
          subst e
          have HBB : b = true := by rw [← HB.out]; simp
          subst HBB
          go_wp2
          go_ret2
          exact ⟨rfl, rfl⟩
      · have g1 : decide (n ≤ s) = false := by simpa using hge
        go_wp2
        go_round
        case rel => exact ⟨k + 1, by omega, noneTo_on HN.out (by unfold fits; rw [HS.out, g1]; rfl), by go_num⟩
        case measure => simp [intOf]; omega
    · obtain rfl : k = 16 := by omega
      have e : R = -1 := by rw [← HR.out]; exact first_none HN.out
      subst e
      have HBB : b = false := by rw [← HB.out]; rfl
      subst HBB
      go_wp2
      go_ret2
      exact ⟨rfl, rfl⟩
theorem aligned_no (n a : Int) (w : World) (h : ¬ (0 ≤ n ∧ n ≤ 512) ∨ alignB a = false) : Calls Tryd.prog 10 #[.int .i64 n, .int .i64 a] w fun e w' => e = .returned (.tuple #[.int .i64 (-1), .bool false]) ∧ w = w' := by
  by_cases h0 : 0 ≤ n
  · have d0 : decide (n < 0) = false := by simpa using h0
    by_cases h1 : n ≤ 512
    · have d1 : decide (512 < n) = false := by simpa using h1
      have ha : alignB a = false := by
        rcases h with h | h
        · omega
        · exact h
      clear h
      go_enter Tryd.func10, Tryd.ntmps10
      go_wp2_with (go_at_call 16; refine (isAlign_any _ _).mono ?_; rintro e w' ⟨rfl, rfl⟩)
      go_ret2
      exact ⟨rfl, rfl⟩
    · have d1 : decide (512 < n) = true := by simpa using h1
      clear h
      go_enter Tryd.func10, Tryd.ntmps10
      go_wp2
      go_ret2
      exact ⟨rfl, rfl⟩
  · have d0 : decide (n < 0) = true := by simpa using h0
    clear h
    go_enter Tryd.func10, Tryd.ntmps10
    go_wp2
    go_ret2
    exact ⟨rfl, rfl⟩
theorem aligned_any (n a : Int) (w : World) (hT : Tab w) : Calls Tryd.prog 10 #[.int .i64 n, .int .i64 a] w fun e w' => e = .returned (.tuple #[.int .i64 (ans n a), .bool (decide (0 ≤ ans n a))]) ∧ w = w' := by
  by_cases h : 0 ≤ n ∧ n ≤ 512
  · cases ha : alignB a
    · rw [ans_no ha]; exact aligned_no n a w (Or.inr ha)
    · rw [ans_yes ha]; exact aligned_in n a _ _ w h.1 h.2 ha hT rfl rfl
  · rw [ans_out h]; exact aligned_no n a w (Or.inl h)
/-- tablea.Class. -/
theorem class_core (n R : Int) (b : Bool) (w : World) (h : Calls Tryd.prog 10 #[.int .i64 n, .int .i64 1] w fun e w' => e = .returned (.tuple #[.int .i64 R, .bool b]) ∧ w = w') :
    Calls Tryd.prog 8 #[.int .i64 n] w fun e w' => e = .returned (.tuple #[.int .i64 R, .bool b]) ∧ w = w' := by
  have H := Lib.hid h
  clear h
  go_enter Tryd.func8, Tryd.ntmps8
  go_wp2_with (go_at_call 10; refine H.out.mono ?_; rintro e w' ⟨rfl, rfl⟩)
  go_ret2
  exact ⟨rfl, rfl⟩
theorem class_any (n : Int) (w : World) (hT : Tab w) : Calls Tryd.prog 8 #[.int .i64 n] w fun e w' => e = .returned (.tuple #[.int .i64 (first n 1), .bool (decide (0 ≤ first n 1))]) ∧ w = w' := by
  have := class_core n _ _ w (aligned_any n 1 w hT)
  rwa [ans_yes alignB_one] at this

end Go.Proofs.YtlbhbjcimbgffaaDoor
