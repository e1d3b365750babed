/-
  What the reference functions do: contracts that the claimed proofs use.
-/
import Derived.Test.YtbmmnapcbhbhkaaMore
namespace Go.Proofs.Ytbmmnapcbhbhkaa
open Go.RowKit

/-- ref.Power. -/
def noneTo (n : Int) (j : Nat) : Prop := ∀ i, i < j → n ≠ 2 ^ i
theorem noneTo_end {n : Int} (h : noneTo n 41) : powB n = false := by
  rw [Bool.eq_false_iff]; intro e
  obtain ⟨k, hk, rfl⟩ := powB_iff.1 e
  exact h k (by omega) rfl
theorem noneTo_on {n : Int} {j : Nat} (h : noneTo n j) (h2 : ((2 : Int) ^ j == n) = false) : noneTo n (j + 1) := by
  intro i hi
  by_cases e : i = j
  · subst e; intro e2; rw [e2] at h2; simp at h2
  · exact h i (by omega)
def AtP (n P : Int) : Prop := ∃ j : Nat, j ≤ 41 ∧ P = 2 ^ j ∧ noneTo n j
theorem atP_bd {n P : Int} (h : AtP n P) : 1 ≤ P ∧ P ≤ 2199023255552 := by
  obtain ⟨j, hj, rfl, _⟩ := h
  have h1 : 2 ^ j ≤ 2 ^ 41 := Nat.pow_le_pow_right (by decide) hj
  have h2 : 0 < 2 ^ j := Nat.two_pow_pos j
  rw [← pow_cast]; omega
theorem atP_lt {n P : Int} (h : AtP n P) (hP : P ≤ 1099511627776) : ∃ j : Nat, j ≤ 40 ∧ P = 2 ^ j ∧ noneTo n j := by
  obtain ⟨j, hj, rfl, hn⟩ := h
  exact ⟨j, log_le (Int.le_refl _) hP, rfl, hn⟩
theorem atP_hit {n P : Int} (h : AtP n P) (hP : P ≤ 1099511627776) (e : (P == n) = true) : powB n = true := by
  obtain ⟨j, hj, rfl, _⟩ := atP_lt h hP
  exact powB_iff.2 ⟨j, hj, (beq_iff_eq.1 e).symm⟩
theorem atP_on {n P : Int} (h : AtP n P) (hP : P ≤ 1099511627776) (e : (P == n) = false) : AtP n (P * 2) := by
  obtain ⟨j, hj, rfl, hn⟩ := atP_lt h hP
  exact ⟨j + 1, by omega, by rw [Int.pow_succ], noneTo_on hn e⟩
theorem atP_end {n P : Int} (h : AtP n P) (hP : 1099511627776 < P) : powB n = false := by
  obtain ⟨j, hj, rfl, hn⟩ := h
  obtain rfl : j = 41 := by
    have : ¬ j ≤ 40 := fun hk => Int.not_lt.2 (pow_bd hk).2 hP
    omega
  exact noneTo_end hn
theorem rpower_any (n : Int) (w : World) : Calls Try.prog 12 #[.int .i64 n] w fun e w' => e = .returned (.bool (powB n)) ∧ w = w' := by
  go_enter Try.func12, Try.ntmps12
  go_wp2
  go_loop [3] (fun p => ∃ P : Int, AtP n P ∧ p = .int .i64 P) (fun p => 4000000000000 - (intOf p).toNat)
  case atStart => exact ⟨1, ⟨0, by omega, rfl, fun i hi => by omega⟩, rfl⟩
  case round =>
    obtain ⟨P, hP, rfl⟩ := hrel
    obtain ⟨b0, b1⟩ := atP_bd hP
    have HP := Lib.hid hP
    clear hP
    by_cases hlt : P ≤ 1099511627776
    · cases hb : (P == n)
      · go_wp2
        go_round
        case rel => exact ⟨P * 2, atP_on HP.out hlt hb, by go_num⟩
        case measure => simp [intOf]; omega
      · go_wp2
        go_ret
        exact ⟨ret_b (atP_hit HP.out hlt hb).symm, rfl⟩
    · go_wp2
      go_ret
      exact ⟨ret_b (atP_end HP.out hlt).symm, rfl⟩

/-- ref.Times. -/
theorem rtimes_zero (x y : Nat) (w : World) (h : x = 0 ∨ y = 0) :
    Calls Try.prog 10 #[.int .u64 x, .int .u64 y] w fun e w' => e = .returned (.tuple #[.int .i64 0, .bool true]) ∧ w = w' := by
  by_cases hx : x = 0
  · subst hx
    go_enter Try.func10, Try.ntmps10
    go_wp2
    go_ret2
    exact ⟨rfl, rfl⟩
  · obtain rfl : y = 0 := by omega
    have h1 : (((x : Nat) : Int) == 0) = false := by simpa using hx
    go_enter Try.func10, Try.ntmps10
    go_wp2
    go_ret2
    exact ⟨rfl, rfl⟩
theorem le_div {x y : Nat} (hy : 1 ≤ y) : (((x : Int)) ≤ (1099511627776 : Int) / (y : Int)) ↔ x * y ≤ 1099511627776 := by
  have e : (1099511627776 : Int) / (y : Int) = ((1099511627776 / y : Nat) : Int) := by rw [Int.natCast_ediv]; rfl
  rw [e, ← Nat.le_div_iff_mul_le (by omega)]
  omega
theorem rtimes_yes (x y : Nat) (w : World) (hx : 1 ≤ x) (hy : 1 ≤ y) (h : x * y ≤ 1099511627776) :
    Calls Try.prog 10 #[.int .u64 x, .int .u64 y] w fun e w' => e = .returned (.tuple #[.int .i64 ((x * y : Nat) : Int), .bool true]) ∧ w = w' := by
  have h1 : x ≤ x * y := Nat.le_mul_of_pos_right _ (by omega)
  have h2 : y ≤ x * y := Nat.le_mul_of_pos_left _ (by omega)
  have hd := le_div (x := x) hy
  have d1 : decide ((1099511627776 : Int) / (y : Int) < (x : Int)) = false := by simp; exact hd.2 h
  have z1 : (((x : Nat) : Int) == 0) = false := by simp; omega
  have z2 : (((y : Nat) : Int) == 0) = false := by simp; omega
  have z3 : decide (1099511627776 < ((x : Nat) : Int)) = false := by simp; omega
  have z4 : decide (1099511627776 < ((y : Nat) : Int)) = false := by simp; omega
  have m : ((x : Nat) : Int) * ((y : Nat) : Int) = ((x * y : Nat) : Int) := (Int.natCast_mul x y).symm
  generalize x * y = z at *
  clear hd
  go_enter Try.func10, Try.ntmps10
  go_wp2
  go_ret2
  exact ⟨rfl, rfl⟩
theorem rtimes_no (x y : Nat) (w : World) (h : 1099511627776 < x * y) :
    Calls Try.prog 10 #[.int .u64 x, .int .u64 y] w fun e w' => e = .returned (.tuple #[.int .i64 0, .bool false]) ∧ w = w' := by
  have hx : x ≠ 0 := by rintro rfl; simp at h
  have hy : y ≠ 0 := by rintro rfl; simp at h
  have z1 : (((x : Nat) : Int) == 0) = false := by simp; omega
  have z2 : (((y : Nat) : Int) == 0) = false := by simp; omega
  have hd := le_div (x := x) (y := y) (by omega)
  have d1 : decide ((1099511627776 : Int) / (y : Int) < (x : Int)) = true := by simp; omega
  have hy : 1 ≤ y := by omega
  clear h hd hx
  by_cases x1 : 1099511627776 < x
  · have z3 : decide (1099511627776 < ((x : Nat) : Int)) = true := by simp; omega
    go_enter Try.func10, Try.ntmps10
    go_wp2
    go_ret2
    exact ⟨rfl, rfl⟩
  · have z3 : decide (1099511627776 < ((x : Nat) : Int)) = false := by simp; omega
    by_cases y1 : 1099511627776 < y
    · have z4 : decide (1099511627776 < ((y : Nat) : Int)) = true := by simp; omega
      go_enter Try.func10, Try.ntmps10
      go_wp2
      go_ret2
      exact ⟨rfl, rfl⟩
    · have z4 : decide (1099511627776 < ((y : Nat) : Int)) = false := by simp; omega
      go_enter Try.func10, Try.ntmps10
      go_wp2
      go_ret2
      exact ⟨rfl, rfl⟩

/-- ref.Log. -/
theorem rlog_nat (N : Nat) (w : World) (hN : N < 9223372036854775808) : Calls Try.prog 20 #[.int .i64 N] w fun e w' => e = .returned (.int .i64 ((Lib.bitLen N : Int) - 1)) ∧ w = w' := by
  have l := Lib.bitLen_le N 64 (by decide) (by omega)
  go_enter Try.func20, Try.ntmps20
  go_wp2
  go_loop [0, 3] (fun m k => ∃ M K : Nat, m = .int .i64 M ∧ k = .int .i64 ((K : Int) - 1) ∧ M ≤ N ∧ K ≤ 64 ∧ Hid (Lib.bitLen N = K + Lib.bitLen M)) (fun m _ => (intOf m).toNat)
  case atStart => exact ⟨N, 0, rfl, rfl, Nat.le_refl _, by omega, Nat.zero_add _ |>.symm⟩
  case round =>
    obtain ⟨M, K, rfl, rfl, hM, hK, HB⟩ := hrel
    by_cases h0 : M = 0
    · subst h0
      go_wp2
      go_ret
      exact ⟨ret_i (by have e := HB.out; rw [blen_zero] at e; omega), rfl⟩
    · have e1 := Lib.bitLen_half M h0 (by omega)
      have e2 := HB.out
      have E : Hid (Lib.bitLen N = K + 1 + Lib.bitLen (M / 2)) := show Lib.bitLen N = K + 1 + Lib.bitLen (M / 2) by omega
      have hK' : K + 1 ≤ 64 := by omega
      clear e1 e2 l
      go_wp2
      go_round
      case rel => exact ⟨M / 2, K + 1, by go_num, by go_num, by omega, hK', E⟩
      case measure => simp [intOf]; omega
theorem rlog_neg (n : Int) (w : World) (h : n < 1) : Calls Try.prog 20 #[.int .i64 n] w fun e w' => e = .returned (.int .i64 (-1)) ∧ w = w' := by
  go_enter Try.func20, Try.ntmps20
  go_wp2
  go_loop [0, 3] (fun m k => m = .int .i64 n ∧ k = .int .i64 (-1)) (fun _ _ => 0)
  case atStart => exact ⟨rfl, rfl⟩
  case round =>
    obtain ⟨rfl, rfl⟩ := hrel
    go_wp2
    go_ret
    exact ⟨rfl, rfl⟩
theorem rlog_any (n : Int) (w : World) (hn : n ≤ 9223372036854775807) : Calls Try.prog 20 #[.int .i64 n] w fun e w' => e = .returned (.int .i64 (log n)) ∧ w = w' := by
  by_cases h : n < 1
  · rw [log_no h]; exact rlog_neg n w h
  · obtain ⟨N, rfl⟩ := Int.eq_ofNat_of_zero_le (by omega : 0 ≤ n)
    rw [log_nat (by omega)]; exact rlog_nat N w (by omega)

/-- ref.Grain. -/
theorem rgrain_nat (N : Nat) (w : World) (h0 : 1 ≤ N) (hN : N < 9223372036854775808) : Calls Try.prog 22 #[.int .i64 N] w fun e w' => e = .returned (.int .i64 (gr N)) ∧ w = w' := by
  go_enter Try.func22, Try.ntmps22
  go_wp2
  go_loop [0, 3] (fun m p => ∃ M P : Nat, m = .int .i64 M ∧ p = .int .i64 P ∧ 1 ≤ M ∧ M ≤ N ∧ P ≤ N ∧ Hid (∃ k, P = 2 ^ k ∧ N = 2 ^ k * M)) (fun m _ => (intOf m).toNat)
  case atStart => exact ⟨N, 1, rfl, rfl, h0, Nat.le_refl _, h0, ⟨0, rfl, by omega⟩⟩
  case round =>
    obtain ⟨M, P, rfl, rfl, hM, hM2, hP, HB⟩ := hrel
    by_cases h2 : M % 2 = 0
    · have e1 : ((M : Int)).tmod 2 = 0 := by rw [Int.tmod_eq_emod_of_nonneg (by omega)]; omega
      have E : Hid (∃ k, P * 2 = 2 ^ k ∧ N = 2 ^ k * (M / 2)) := by
        obtain ⟨k, a, b⟩ := HB.out
        refine ⟨k + 1, by rw [Nat.pow_succ, a], ?_⟩
        rw [Nat.pow_succ, Nat.mul_assoc, show 2 * (M / 2) = M by omega]; exact b
      have hP2 : P * 2 ≤ N := by
        obtain ⟨k, a, b⟩ := E.out
        rw [a, b]; exact Nat.le_mul_of_pos_right _ (by omega)
      clear HB
      go_wp2
      go_round
      case rel => exact ⟨M / 2, P * 2, by go_num, by go_num, by omega, by omega, hP2, E⟩
      case measure => simp [intOf]; omega
    · have e1 : ((M : Int)).tmod 2 = 1 := by rw [Int.tmod_eq_emod_of_nonneg (by omega)]; omega
      go_wp2
      go_ret
      refine ⟨ret_i ?_, rfl⟩
      obtain ⟨k, a, b⟩ := HB.out
      rw [gr_of (k := k) (m := M / 2) (by omega) (by rw [b]; congr 1; omega), a]
theorem rgrain_any (n : Int) (w : World) (hn : n ≤ 9223372036854775807) : Calls Try.prog 22 #[.int .i64 n] w fun e w' => e = .returned (.int .i64 (grain n)) ∧ w = w' := by
  by_cases h : n < 1
  · rw [grain_no h]
    go_enter Try.func22, Try.ntmps22
    go_wp2
    go_ret
    exact ⟨rfl, rfl⟩
  · obtain ⟨N, rfl⟩ := Int.eq_ofNat_of_zero_le (by omega : 0 ≤ n)
    rw [grain_nat (by omega)]; exact rgrain_nat N w (by omega) (by omega)

/-- ref.Up. -/
theorem rup_no (n p : Int) (w : World) (h : sizeB n = false ∨ powB p = false) : Calls Try.prog 14 #[.int .i64 n, .int .i64 p] w fun e w' => e = .returned (.tuple #[.int .i64 0, .int .i64 11]) ∧ w = w' := by
  by_cases h0 : n < 0
  · have d0 : decide (n < 0) = true := by simpa using h0
    clear h
    go_enter Try.func14, Try.ntmps14
    go_wp2
    go_ret2
    exact ⟨rfl, rfl⟩
  · have d0 : decide (n < 0) = false := by simpa using h0
    by_cases h1 : 1099511627776 < n
    · have d1 : decide (1099511627776 < n) = true := by simpa using h1
      clear h
      go_enter Try.func14, Try.ntmps14
      go_wp2
      go_ret2
      exact ⟨rfl, rfl⟩
    · have d1 : decide (1099511627776 < n) = false := by simpa using h1
      have hp : powB p = false := by
        rcases h with h | h
        · rw [sizeB_not] at h; omega
        · exact h
      clear h
      go_enter Try.func14, Try.ntmps14
      go_wp2_with (first | (go_at_call 12; refine (rpower_any _ _).mono ?_; rintro e w' ⟨rfl, rfl⟩))
      go_ret2
      exact ⟨rfl, rfl⟩
theorem rup_yes (n p : Int) (w : World) (hn : sizeB n = true) (hp : powB p = true) : Calls Try.prog 14 #[.int .i64 n, .int .i64 p] w fun e w' => e = .returned (.tuple #[.int .i64 (up n p), .int .i64 0]) ∧ w = w' := by
  obtain ⟨h0, h1⟩ := sizeB_iff.1 hn
  obtain ⟨p0, p1⟩ := powB_bd hp
  have d0 : decide (n < 0) = false := by simpa using h0
  have d1 : decide (1099511627776 < n) = false := by simpa using h1
  have ds := down_spec n p0
  have us := up_spec n p0
  have dn := down_nonneg p0 h0
  have uz := up_size hp h1
  have q0 : 0 ≤ n / p := Int.ediv_nonneg h0 (by omega)
  have q1 : n / p ≤ n := Int.ediv_le_self _ h0
  have e1 : n.tdiv p = n / p := Int.tdiv_eq_ediv_of_nonneg h0
  have e2 : n / p * p = down n p := rfl
  by_cases hd : down n p < n
  · have e3 : (n / p + 1) * p = up n p := by
      rw [Int.add_mul, e2]
      exact (up_one p0 (n / p + 1) (by rw [Int.add_mul, e2]) (by omega) (by omega)).symm
    generalize up n p = a at *
    generalize down n p = d at *
    generalize n / p = q at *
    clear hn
    go_enter Try.func14, Try.ntmps14
    go_wp2_with (first | (go_at_call 12; refine (rpower_any _ _).mono ?_; rintro e w' ⟨rfl, rfl⟩))
    go_ret2
    exact ⟨rfl, rfl⟩
  · have e3 : n / p * p = up n p := by
      rw [e2]; exact (up_one p0 (n / p) rfl (by omega) (by omega)).symm
    rw [e3] at e2
    rw [← e2] at ds dn hd
    clear e2
    generalize up n p = a at *
    generalize n / p = q at *
    clear hn
    go_enter Try.func14, Try.ntmps14
    go_wp2_with (first | (go_at_call 12; refine (rpower_any _ _).mono ?_; rintro e w' ⟨rfl, rfl⟩))
    go_ret2
    exact ⟨rfl, rfl⟩

end Go.Proofs.Ytbmmnapcbhbhkaa
