/-
  What Aligned and Class of both layouts do: contracts that the claimed proofs use.
-/
import Derived.Test.YthdjceihbmdneaaDoorTable
namespace Go.Proofs.YthdjceihbmdneaaDoor
open Go.RowKit

/-- tablea.Aligned. -/
theorem aaligned_in (n a R : Int) (b : Bool) (w : World) (h0 : 0 ≤ n) (h1 : n ≤ 512) (ha : alignB a = true) (hT : Tab w) (hR : first 0 n a = R) (hb : decide (0 ≤ R) = b) : Calls Tryd.prog 22 #[.int .i64 n, .int .i64 a] w fun e w' => e = .returned (.tuple #[.int .i64 R, .bool b]) ∧ w = w' := by
  obtain ⟨a0, a1⟩ := alignB_bd ha
  have HR := Lib.hid hR
  have HB := Lib.hid hb
  have d0 : decide (n < 0) = false := by simpa using h0
  have d1 : decide (512 < n) = false := by simpa using h1
  obtain ⟨⟨t, fr, hT⟩, _⟩ := hT
  have HT := Lib.hid hT
  clear hT hR hb
  go_enter Tryd.func22, Tryd.ntmps22
  go_wp2_with (first | (go_at_call 31; refine (isAlign_any _ _).mono ?_; rintro e w' ⟨rfl, rfl⟩) | (refine wpList_load_row rfl 39 (.global 1) rfl 1 rfl t (row 0) fr _ HT.out Tryd.underlying39 rfl (by kernel_rfl) ?_))
  go_loop [20] (fun i => ∃ k : Nat, k ≤ 16 ∧ noneTo 0 n a k ∧ i = .int .i64 k) (fun i => 16 - (intOf i).toNat)
  case atStart => exact ⟨0, by omega, noneTo_zero 0 n a, rfl⟩
  case round =>
    obtain ⟨k, hk, hn, rfl⟩ := hrel
    have HN := Lib.hid hn
    clear hn
    by_cases hlt : k < 16
    · have hi := old_index k hlt w
      obtain ⟨s0, s1⟩ := sz_bd0 k hlt
      obtain ⟨s, hs⟩ : ∃ s, sz 0 k = s := ⟨_, rfl⟩
      rw [hs] at hi s0 s1
      have HS := Lib.hid hs
      clear hs
      by_cases hge : n ≤ s
      · have g1 : decide (n ≤ s) = true := by simpa using hge
        cases hr : (s % a == 0)
        · go_wp2
          go_round
          case rel => exact ⟨k + 1, by omega, noneTo_on HN.out (by unfold fits; rw [HS.out, g1, hr]; rfl), by go_num⟩
          case measure => simp [intOf]; omega
        · have e : R = (k : Int) := by rw [← HR.out]; exact first_hit h0 h1 HN.out hlt (by unfold fits; rw [HS.out, g1, hr]; rfl)
          subst e
          have HBB : b = true := by rw [← HB.out]; simp
          subst HBB
          go_wp2
          go_ret2
          exact ⟨rfl, rfl⟩
      · have g1 : decide (n ≤ s) = false := by simpa using hge
        go_wp2
        go_round
        case rel => exact ⟨k + 1, by omega, noneTo_on HN.out (by unfold fits; rw [HS.out, g1]; rfl), by go_num⟩
        case measure => simp [intOf]; omega
    · obtain rfl : k = 16 := by omega
      have e : R = -1 := by rw [← HR.out]; exact first_none HN.out
      subst e
      have HBB : b = false := by rw [← HB.out]; rfl
      subst HBB
      go_wp2
      go_ret2
      exact ⟨rfl, rfl⟩
theorem aaligned_no (n a : Int) (w : World) (h : ¬ (0 ≤ n ∧ n ≤ 512) ∨ alignB a = false) : Calls Tryd.prog 22 #[.int .i64 n, .int .i64 a] w fun e w' => e = .returned (.tuple #[.int .i64 (-1), .bool false]) ∧ w = w' := by
  by_cases h0 : 0 ≤ n
  · have d0 : decide (n < 0) = false := by simpa using h0
    by_cases h1 : n ≤ 512
    · have d1 : decide (512 < n) = false := by simpa using h1
      have ha : alignB a = false := by
        rcases h with h | h
        · omega
        · exact h
      clear h
      go_enter Tryd.func22, Tryd.ntmps22
      go_wp2_with (go_at_call 31; refine (isAlign_any _ _).mono ?_; rintro e w' ⟨rfl, rfl⟩)
      go_ret2
      exact ⟨rfl, rfl⟩
    · have d1 : decide (512 < n) = true := by simpa using h1
      clear h
      go_enter Tryd.func22, Tryd.ntmps22
      go_wp2
      go_ret2
      exact ⟨rfl, rfl⟩
  · have d0 : decide (n < 0) = true := by simpa using h0
    clear h
    go_enter Tryd.func22, Tryd.ntmps22
    go_wp2
    go_ret2
    exact ⟨rfl, rfl⟩
theorem aaligned_any (n a : Int) (w : World) (hT : Tab w) : Calls Tryd.prog 22 #[.int .i64 n, .int .i64 a] w fun e w' => e = .returned (.tuple #[.int .i64 (ans 0 n a), .bool (decide (0 ≤ ans 0 n a))]) ∧ w = w' := by
  by_cases h : 0 ≤ n ∧ n ≤ 512
  · cases ha : alignB a
    · rw [ans_no ha]; exact aaligned_no n a w (Or.inr ha)
    · rw [ans_yes ha]; exact aaligned_in n a _ _ w h.1 h.2 ha hT rfl rfl
  · rw [ans_out h]; exact aaligned_no n a w (Or.inl h)
/-- tableb.newAligned. -/
theorem baligned_in (n a R : Int) (b : Bool) (w : World) (h0 : 0 ≤ n) (h1 : n ≤ 512) (ha : alignB a = true) (hT : Tab w) (hR : first 1 n a = R) (hb : decide (0 ≤ R) = b) : Calls Tryd.prog 27 #[.int .i64 n, .int .i64 a] w fun e w' => e = .returned (.tuple #[.int .i64 R, .bool b]) ∧ w = w' := by
  obtain ⟨a0, a1⟩ := alignB_bd ha
  have HR := Lib.hid hR
  have HB := Lib.hid hb
  have d0 : decide (n < 0) = false := by simpa using h0
  have d1 : decide (512 < n) = false := by simpa using h1
  obtain ⟨_, t, fr, hT⟩ := hT
  have HT := Lib.hid hT
  clear hT hR hb
  go_enter Tryd.func27, Tryd.ntmps27
  go_wp2_with (first | (go_at_call 33; refine (isAlign2_any _ _).mono ?_; rintro e w' ⟨rfl, rfl⟩) | (refine wpList_load_row rfl 38 (.global 0) rfl 0 rfl t (row 1) fr _ HT.out Tryd.underlying38 rfl (by kernel_rfl) ?_))
  go_loop [20] (fun i => ∃ k : Nat, k ≤ 12 ∧ noneTo 1 n a k ∧ i = .int .i64 k) (fun i => 12 - (intOf i).toNat)
  case atStart => exact ⟨0, by omega, noneTo_zero 1 n a, rfl⟩
  case round =>
    obtain ⟨k, hk, hn, rfl⟩ := hrel
    have HN := Lib.hid hn
    clear hn
    by_cases hlt : k < 12
    · have hi := new_index k hlt w
      obtain ⟨s0, s1⟩ := sz_bd1 k hlt
      obtain ⟨s, hs⟩ : ∃ s, sz 1 k = s := ⟨_, rfl⟩
      rw [hs] at hi s0 s1
      have HS := Lib.hid hs
      clear hs
      by_cases hge : n ≤ s
      · have g1 : decide (n ≤ s) = true := by simpa using hge
        cases hr : (s % a == 0)
        · go_wp2
          go_round
          case rel => exact ⟨k + 1, by omega, noneTo_on HN.out (by unfold fits; rw [HS.out, g1, hr]; rfl), by go_num⟩
          case measure => simp [intOf]; omega
        · have e : R = (k : Int) := by rw [← HR.out]; exact first_hit h0 h1 HN.out hlt (by unfold fits; rw [HS.out, g1, hr]; rfl)
          subst e
          have HBB : b = true := by rw [← HB.out]; simp
          subst HBB
          go_wp2
          go_ret2
          exact ⟨rfl, rfl⟩
      · have g1 : decide (n ≤ s) = false := by simpa using hge
        go_wp2
        go_round
        case rel => exact ⟨k + 1, by omega, noneTo_on HN.out (by unfold fits; rw [HS.out, g1]; rfl), by go_num⟩
        case measure => simp [intOf]; omega
    · obtain rfl : k = 12 := by omega
      have e : R = -1 := by rw [← HR.out]; exact first_none HN.out
      subst e
      have HBB : b = false := by rw [← HB.out]; rfl
      subst HBB
      go_wp2
      go_ret2
      exact ⟨rfl, rfl⟩
theorem baligned_no (n a : Int) (w : World) (h : ¬ (0 ≤ n ∧ n ≤ 512) ∨ alignB a = false) : Calls Tryd.prog 27 #[.int .i64 n, .int .i64 a] w fun e w' => e = .returned (.tuple #[.int .i64 (-1), .bool false]) ∧ w = w' := by
  by_cases h0 : 0 ≤ n
  · have d0 : decide (n < 0) = false := by simpa using h0
    by_cases h1 : n ≤ 512
    · have d1 : decide (512 < n) = false := by simpa using h1
      have ha : alignB a = false := by
        rcases h with h | h
        · omega
        · exact h
      clear h
      go_enter Tryd.func27, Tryd.ntmps27
      go_wp2_with (go_at_call 33; refine (isAlign2_any _ _).mono ?_; rintro e w' ⟨rfl, rfl⟩)
      go_ret2
      exact ⟨rfl, rfl⟩
    · have d1 : decide (512 < n) = true := by simpa using h1
      clear h
      go_enter Tryd.func27, Tryd.ntmps27
      go_wp2
      go_ret2
      exact ⟨rfl, rfl⟩
  · have d0 : decide (n < 0) = true := by simpa using h0
    clear h
    go_enter Tryd.func27, Tryd.ntmps27
    go_wp2
    go_ret2
    exact ⟨rfl, rfl⟩
theorem baligned_any (n a : Int) (w : World) (hT : Tab w) : Calls Tryd.prog 27 #[.int .i64 n, .int .i64 a] w fun e w' => e = .returned (.tuple #[.int .i64 (ans 1 n a), .bool (decide (0 ≤ ans 1 n a))]) ∧ w = w' := by
  by_cases h : 0 ≤ n ∧ n ≤ 512
  · cases ha : alignB a
    · rw [ans_no ha]; exact baligned_no n a w (Or.inr ha)
    · rw [ans_yes ha]; exact baligned_in n a _ _ w h.1 h.2 ha hT rfl rfl
  · rw [ans_out h]; exact baligned_no n a w (Or.inl h)

/-! ### Both layouts -/
/-- tableb.Aligned, by what it calls. -/
theorem aligned_core0 (n a R : Int) (b : Bool) (w : World) (h : Calls Tryd.prog 22 #[.int .i64 n, .int .i64 a] w fun e w' => e = .returned (.tuple #[.int .i64 R, .bool b]) ∧ w = w') :
    Calls Tryd.prog 12 #[.int .i64 0, .int .i64 n, .int .i64 a] w fun e w' => e = .returned (.tuple #[.int .i64 R, .bool b]) ∧ w = w' := by
  have H := Lib.hid h
  clear h
  go_enter Tryd.func12, Tryd.ntmps12
  go_wp2_with (go_at_call 22; refine H.out.mono ?_; rintro e w' ⟨rfl, rfl⟩)
  go_ret2
  exact ⟨rfl, rfl⟩
theorem aligned_core1 (n a R : Int) (b : Bool) (w : World) (h : Calls Tryd.prog 27 #[.int .i64 n, .int .i64 a] w fun e w' => e = .returned (.tuple #[.int .i64 R, .bool b]) ∧ w = w') :
    Calls Tryd.prog 12 #[.int .i64 1, .int .i64 n, .int .i64 a] w fun e w' => e = .returned (.tuple #[.int .i64 R, .bool b]) ∧ w = w' := by
  have H := Lib.hid h
  clear h
  go_enter Tryd.func12, Tryd.ntmps12
  go_wp2_with (go_at_call 27; refine H.out.mono ?_; rintro e w' ⟨rfl, rfl⟩)
  go_ret2
  exact ⟨rfl, rfl⟩
theorem aligned_core2 (v n a : Int) (w : World) (h0 : v ≠ 0) (h1 : v ≠ 1) :
    Calls Tryd.prog 12 #[.int .i64 v, .int .i64 n, .int .i64 a] w fun e w' => e = .returned (.tuple #[.int .i64 (-1), .bool false]) ∧ w = w' := by
  have b0 : (v == 0) = false := by simpa using h0
  have b1 : (v == 1) = false := by simpa using h1
  clear h0 h1
  go_enter Tryd.func12, Tryd.ntmps12
  go_wp2
  go_ret2
  exact ⟨rfl, rfl⟩
theorem aligned_any (v n a : Int) (w : World) (hT : Tab w) : Calls Tryd.prog 12 #[.int .i64 v, .int .i64 n, .int .i64 a] w fun e w' => e = .returned (.tuple #[.int .i64 (ans v n a), .bool (decide (0 ≤ ans v n a))]) ∧ w = w' := by
  rcases layout v with rfl | rfl | ⟨h0, h1⟩
  · exact aligned_core0 n a _ _ w (aaligned_any n a w hT)
  · exact aligned_core1 n a _ _ w (baligned_any n a w hT)
  · rw [ans_none h0 h1]; exact aligned_core2 v n a w h0 h1
/-- tablea.Class and tableb.Class. -/
theorem aclass_core (n R : Int) (b : Bool) (w : World) (h : Calls Tryd.prog 22 #[.int .i64 n, .int .i64 1] w fun e w' => e = .returned (.tuple #[.int .i64 R, .bool b]) ∧ w = w') :
    Calls Tryd.prog 21 #[.int .i64 n] w fun e w' => e = .returned (.tuple #[.int .i64 R, .bool b]) ∧ w = w' := by
  have H := Lib.hid h
  clear h
  go_enter Tryd.func21, Tryd.ntmps21
  go_wp2_with (go_at_call 22; refine H.out.mono ?_; rintro e w' ⟨rfl, rfl⟩)
  go_ret2
  exact ⟨rfl, rfl⟩
theorem aclass_any (n : Int) (w : World) (hT : Tab w) : Calls Tryd.prog 21 #[.int .i64 n] w fun e w' => e = .returned (.tuple #[.int .i64 (first 0 n 1), .bool (decide (0 ≤ first 0 n 1))]) ∧ w = w' := by
  have := aclass_core n _ _ w (aaligned_any n 1 w hT)
  rwa [ans_yes alignB_one] at this
theorem class_core (v n R : Int) (b : Bool) (w : World) (h : Calls Tryd.prog 12 #[.int .i64 v, .int .i64 n, .int .i64 1] w fun e w' => e = .returned (.tuple #[.int .i64 R, .bool b]) ∧ w = w') :
    Calls Tryd.prog 9 #[.int .i64 v, .int .i64 n] w fun e w' => e = .returned (.tuple #[.int .i64 R, .bool b]) ∧ w = w' := by
  have H := Lib.hid h
  clear h
  go_enter Tryd.func9, Tryd.ntmps9
  go_wp2_with (go_at_call 12; refine H.out.mono ?_; rintro e w' ⟨rfl, rfl⟩)
  go_ret2
  exact ⟨rfl, rfl⟩
theorem class_any (v n : Int) (w : World) (hT : Tab w) : Calls Tryd.prog 9 #[.int .i64 v, .int .i64 n] w fun e w' => e = .returned (.tuple #[.int .i64 (first v n 1), .bool (decide (0 ≤ first v n 1))]) ∧ w = w' := by
  have := class_core v n _ _ w (aligned_any v n 1 w hT)
  rwa [ans_yes alignB_one] at this

end Go.Proofs.YthdjceihbmdneaaDoor
