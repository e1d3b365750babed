/-
  What the reference functions do, said of words as bit vectors: contracts that the claimed proofs use.
-/
import Derived.Test.YtlkphjbnjeelaaaSmall
namespace Go.Proofs.Ytlkphjbnjeelaaa
open Go.RowKit

theorem bit_nat (x : BitVec 64) (k : Nat) (w : World) (h1 : k ≤ 64) :
    Calls Try.prog 27 #[.int .u64 (u x), .int .i64 (k : Int)] w fun e w' => e = .returned (.int .u64 (u (bitW x k))) ∧ w = w' :=
  bit_any x k w (by omega) (by omega)

def clearTo (v : BitVec 64) (m k : Nat) : Prop := ∀ i, m ≤ i → i < k → v.getLsbD i = false
theorem clearTo_end {v : BitVec 64} {m : Nat} (hm : m ≤ 64) (h : clearTo v m 64) : fits v m = true :=
  (fits_iff v m hm).2 fun i hi => by
    by_cases h64 : i < 64
    · exact h i hi h64
    · exact BitVec.getLsbD_of_ge v i (by omega)
theorem clearTo_hit {v : BitVec 64} {m k : Nat} (hm : m ≤ 64) (hk : m ≤ k) (h : v.getLsbD k = true) : fits v m = false := by
  rw [Bool.eq_false_iff]; intro hf
  have := (fits_iff v m hm).1 hf k hk
  rw [this] at h; cases h
theorem one_u (x : BitVec 64) (k : Nat) : (u (bitW x k) == 1) = x.getLsbD k := by
  have e : (1 : Int) = u 1#64 := rfl
  rw [e, u_beq, bitW_eq_one]
theorem above_nat (v : BitVec 64) (m : Nat) (w : World) (h1 : m ≤ 64) :
    Calls Try.prog 30 #[.int .u64 (u v), .int .i64 (m : Int)] w fun e w' => e = .returned (.bool (!fits v m)) ∧ w = w' := by
  go_enter Try.func30, Try.ntmps30
  go_wp2
  go_loop [5] (fun i => ∃ k : Nat, m ≤ k ∧ k ≤ 64 ∧ clearTo v m k ∧ i = .int .i64 k) (fun i => 64 - (intOf i).toNat)
  case atStart => exact ⟨m, Nat.le_refl _, h1, fun i a b => by omega, rfl⟩
  case round =>
    obtain ⟨k, hk, hk2, hcl, rfl⟩ := hrel
    have HC := Lib.hid hcl
    clear hcl
    by_cases hlt : k < 64
    · by_cases hb : v.getLsbD k = true
      · have ho : (u (bitW v k) == 1) = true := by rw [one_u, hb]
        have HB := Lib.hid hb
        clear hb
        go_wp2_with (go_at_call 27; refine (bit_nat _ k _ (by omega)).mono ?_; rintro e w' ⟨rfl, rfl⟩)
        go_ret
        exact ⟨ret_b (by rw [clearTo_hit h1 hk HB.out]; rfl), rfl⟩
      · have ho : (u (bitW v k) == 1) = false := by rw [one_u]; simpa using hb
        have HB := Lib.hid hb
        clear hb
        go_wp2_with (go_at_call 27; refine (bit_nat _ k _ (by omega)).mono ?_; rintro e w' ⟨rfl, rfl⟩)
        go_round
        case rel => exact ⟨k + 1, by omega, by omega, fun i a b => by
          by_cases hi : i = k
          · subst hi; simpa using HB.out
          · exact HC.out i a (by omega), by go_num⟩
        case measure => simp [intOf]; omega
    · obtain rfl : k = 64 := by omega
      go_wp2
      go_ret
      exact ⟨ret_b (by rw [clearTo_end h1 HC.out]; rfl), rfl⟩
theorem above_any (v : BitVec 64) (n : Int) (w : World) (h0 : 0 ≤ n) (h1 : n ≤ 64) :
    Calls Try.prog 30 #[.int .u64 (u v), .int .i64 n] w fun e w' => e = .returned (.bool (!fits v n.toNat)) ∧ w = w' := by
  obtain ⟨m, rfl⟩ := Int.eq_ofNat_of_zero_le h0
  exact above_nat v m w (by omega)

/-- ref.Get. -/
def getAcc (x : BitVec 64) (s k : Nat) : BitVec 64 := acc (fun i => bitW x (s + i)) k
theorem getAcc_raw (x : BitVec 64) (s k : Nat) : bits .or .u64 (u (getAcc x s k)) (IntKind.u64.wrap (u (bitW x (s + k)) * 2 ^ k)) = u (getAcc x s (k + 1)) := by
  rw [shl_u, or_u]; rfl
set_option maxHeartbeats 400000 in
theorem rget_yes (x : BitVec 64) (s n : Nat) (w : World) (h0 : 1 ≤ n) (h3 : s + n ≤ 64) :
    Calls Try.prog 9 #[.int .u64 (u x), .agg #[.int .i64 (s : Int), .int .i64 (n : Int)]] w fun e w' => e = .returned (.tuple #[.int .u64 (u (getW x s n)), .bool true]) ∧ Below w.heap.size w w' := by
  have hr : rightB (s : Int) (n : Int) = true := rightB_iff.2 (by omega)
  go_enter Try.func9, Try.ntmps9
  go_wp2_with (go_at_call 13; refine (rright_any _ _ _).mono ?_; rintro e w' ⟨rfl, rfl⟩)
  go_loop [6, 7] (fun o i => ∃ k : Nat, k ≤ n ∧ i = .int .i64 k ∧ o = .int .u64 (u (getAcc x s k))) (fun _ i => n - (intOf i).toNat)
  case atStart => exact ⟨0, by omega, rfl, rfl⟩
  case round =>
    obtain ⟨k, hk, rfl, rfl⟩ := hrel
    by_cases hlt : k < n
    · go_wp2_with (go_at_call 27; refine (bit_any _ _ _ (by omega) (by omega)).mono ?_; rintro e w' ⟨rfl, rfl⟩)
      go_round
      case rel => exact ⟨k + 1, by omega, by go_num, by rw [getAcc_raw]⟩
      case measure => simp [intOf]; omega
    · obtain rfl : k = n := by omega
      go_wp2
      go_ret2
      exact ⟨ret_ub (by rw [getAcc, get_acc x s k (by omega)]), ((Below.refl _ _).alloc (Nat.le_refl _) _).alloc (by simp) _⟩
theorem rget_no (x : BitVec 64) (s n : Int) (w : World) (hr : rightB s n = false) :
    Calls Try.prog 9 #[.int .u64 (u x), .agg #[.int .i64 s, .int .i64 n]] w fun e w' => e = .returned (.tuple #[.int .u64 0, .bool false]) ∧ Below w.heap.size w w' := by
  go_enter Try.func9, Try.ntmps9
  go_wp2_with (go_at_call 13; refine (rright_any _ _ _).mono ?_; rintro e w' ⟨rfl, rfl⟩)
  go_ret2
  exact ⟨rfl, ((Below.refl _ _).alloc (Nat.le_refl _) _).alloc (by simp) _⟩

/-- ref.Put. -/
theorem rput_no (x v : BitVec 64) (s n : Int) (w : World) (hr : rightB s n = false) :
    Calls Try.prog 11 #[.int .u64 (u x), .agg #[.int .i64 s, .int .i64 n], .int .u64 (u v)] w fun e w' => e = .returned (.tuple #[.int .u64 0, .bool false]) ∧ Below w.heap.size w w' := by
  go_enter Try.func11, Try.ntmps11
  go_wp2_with (go_at_call 13; refine (rright_any _ _ _).mono ?_; rintro e w' ⟨rfl, rfl⟩)
  go_ret2
  exact ⟨rfl, ((Below.refl _ _).alloc (Nat.le_refl _) _).alloc (by simp) _⟩
theorem rput_wide (x v : BitVec 64) (s n : Int) (w : World) (hr : rightB s n = true) (hv : fits v n.toNat = false) :
    Calls Try.prog 11 #[.int .u64 (u x), .agg #[.int .i64 s, .int .i64 n], .int .u64 (u v)] w fun e w' => e = .returned (.tuple #[.int .u64 0, .bool false]) ∧ Below w.heap.size w w' := by
  obtain ⟨h0, h1, h2, h3⟩ := rightB_iff.1 hr
  go_enter Try.func11, Try.ntmps11
  go_wp2_with (first | (go_at_call 13; refine (rright_any _ _ _).mono ?_; rintro e w' ⟨rfl, rfl⟩) | (go_at_call 30; refine (above_any _ _ _ (by omega) (by omega)).mono ?_; rintro e w' ⟨rfl, rfl⟩))
  go_ret2
  exact ⟨rfl, ((Below.refl _ _).alloc (Nat.le_refl _) _).alloc (by simp) _⟩
def putAcc (x : BitVec 64) (s n : Nat) (v : BitVec 64) (k : Nat) : BitVec 64 := acc (putBit x s n v) k
theorem putAcc_in (x : BitVec 64) (s n : Nat) (v : BitVec 64) (k : Nat) (h : s ≤ k) (h' : k < s + n) :
    bits .or .u64 (u (putAcc x s n v k)) (IntKind.u64.wrap (u (bitW v (k - s)) * 2 ^ k)) = u (putAcc x s n v (k + 1)) := by
  rw [shl_u, or_u, putAcc, putAcc, acc]; congr 3; unfold putBit; rw [if_pos ⟨h, h'⟩]
theorem putAcc_out (x : BitVec 64) (s n : Nat) (v : BitVec 64) (k : Nat) (h : ¬ (s ≤ k ∧ k < s + n)) :
    bits .or .u64 (u (putAcc x s n v k)) (IntKind.u64.wrap (u (bitW x k) * 2 ^ k)) = u (putAcc x s n v (k + 1)) := by
  rw [shl_u, or_u, putAcc, putAcc, acc]; congr 3; unfold putBit; rw [if_neg h]
set_option maxHeartbeats 800000 in
theorem rput_yes (x v : BitVec 64) (s n : Nat) (w : World) (h0 : 1 ≤ n) (h3 : s + n ≤ 64) (hv : fits v n = true) :
    Calls Try.prog 11 #[.int .u64 (u x), .agg #[.int .i64 (s : Int), .int .i64 (n : Int)], .int .u64 (u v)] w fun e w' => e = .returned (.tuple #[.int .u64 (u (putW x s n v)), .bool true]) ∧ Below w.heap.size w w' := by
  have hr : rightB (s : Int) (n : Int) = true := rightB_iff.2 (by omega)
  go_enter Try.func11, Try.ntmps11
  go_wp2_with (first | (go_at_call 13; refine (rright_any _ _ _).mono ?_; rintro e w' ⟨rfl, rfl⟩) | (go_at_call 30; refine (above_nat _ n _ (by omega)).mono ?_; rintro e w' ⟨rfl, rfl⟩))
  go_loop [8, 9] (fun o i => ∃ k : Nat, k ≤ 64 ∧ i = .int .i64 k ∧ o = .int .u64 (u (putAcc x s n v k))) (fun _ i => 64 - (intOf i).toNat)
  case atStart => exact ⟨0, by omega, rfl, rfl⟩
  case round =>
    obtain ⟨k, hk, rfl, rfl⟩ := hrel
    by_cases hlt : k < 64
    · by_cases ha : s ≤ k
      · by_cases hb : k < s + n
        · go_wp2_with (go_at_call 27; refine (bit_any _ _ _ (by omega) (by omega)).mono ?_; rintro e w' ⟨rfl, rfl⟩)
          go_round
          case rel => exact ⟨k + 1, by omega, by go_num, by rw [putAcc_in x s n v k ha hb]⟩
          case measure => simp [intOf]; omega
        · have hd : decide ((k : Int) < (s : Int) + (n : Int)) = false := by simp; omega
          go_wp2_with (go_at_call 27; refine (bit_any _ _ _ (by omega) (by omega)).mono ?_; rintro e w' ⟨rfl, rfl⟩)
          go_round
          case rel => exact ⟨k + 1, by omega, by go_num, by rw [putAcc_out x s n v k (by omega)]⟩
          case measure => simp [intOf]; omega
      · have hd : decide (s ≤ k) = false := by simpa using ha
        go_wp2_with (go_at_call 27; refine (bit_any _ _ _ (by omega) (by omega)).mono ?_; rintro e w' ⟨rfl, rfl⟩)
        go_round
        case rel => exact ⟨k + 1, by omega, by go_num, by rw [putAcc_out x s n v k (by omega)]⟩
        case measure => simp [intOf]; omega
    · obtain rfl : k = 64 := by omega
      go_wp2
      go_ret2
      exact ⟨ret_ub (by rw [putAcc, put_acc x s n v (by omega) hv]), ((Below.refl _ _).alloc (Nat.le_refl _) _).alloc (by simp) _⟩

/-- ref.Cut. -/
theorem cut_no (x : BitVec 64) (n : Int) (b : Bool) (w : World) (h : n < 1 ∨ 64 < n) :
    Calls Try.prog 15 #[.int .u64 (u x), .int .i64 n, .bool b] w fun e w' => e = .returned (.tuple #[.int .u64 0, .bool false]) ∧ w = w' := by
  rcases h with h | h
  · go_enter Try.func15, Try.ntmps15
    go_wp2
    go_ret2
    exact ⟨rfl, rfl⟩
  · have hd : decide (n < 1) = false := by simp; omega
    go_enter Try.func15, Try.ntmps15
    go_wp2
    go_ret2
    exact ⟨rfl, rfl⟩
def cutAcc (x : BitVec 64) (n : Nat) (sd : Bool) (k : Nat) : BitVec 64 := acc (cutBit x n sd) k
theorem cutAcc_in (x : BitVec 64) (n : Nat) (sd : Bool) (k : Nat) (h : k < n) :
    bits .or .u64 (u (cutAcc x n sd k)) (IntKind.u64.wrap (u (bitW x k) * 2 ^ k)) = u (cutAcc x n sd (k + 1)) := by
  rw [shl_u, or_u, cutAcc, cutAcc, acc]; congr 3; unfold cutBit; rw [if_pos h]
theorem cutAcc_s (x : BitVec 64) (n : Nat) (k : Nat) (h : ¬ k < n) :
    bits .or .u64 (u (cutAcc x n true k)) (IntKind.u64.wrap (u (bitW x (n - 1)) * 2 ^ k)) = u (cutAcc x n true (k + 1)) := by
  rw [shl_u, or_u, cutAcc, cutAcc, acc]; congr 3; unfold cutBit; rw [if_neg h, if_pos rfl]
theorem cutAcc_u (x : BitVec 64) (n : Nat) (k : Nat) (h : ¬ k < n) :
    u (cutAcc x n false k) = u (cutAcc x n false (k + 1)) := by
  rw [cutAcc, cutAcc, acc]; unfold cutBit; rw [if_neg h, if_neg (by decide)]; simp
theorem or_zero_u (x : BitVec 64) : bits .or .u64 (u x) 0 = u x := by
  have e : (0 : Int) = u 0#64 := rfl
  rw [e, or_u]; simp
set_option maxHeartbeats 800000 in
theorem cut_s (x : BitVec 64) (n : Nat) (w : World) (h0 : 1 ≤ n) (h3 : n ≤ 64) :
    Calls Try.prog 15 #[.int .u64 (u x), .int .i64 (n : Int), .bool true] w fun e w' => e = .returned (.tuple #[.int .u64 (u (signW x n)), .bool true]) ∧ w = w' := by
  go_enter Try.func15, Try.ntmps15
  go_wp2
  go_loop [8, 9] (fun o i => ∃ k : Nat, k ≤ 64 ∧ i = .int .i64 k ∧ o = .int .u64 (u (cutAcc x n true k))) (fun _ i => 64 - (intOf i).toNat)
  case atStart => exact ⟨0, by omega, rfl, rfl⟩
  case round =>
    obtain ⟨k, hk, rfl, rfl⟩ := hrel
    by_cases hlt : k < 64
    · by_cases ha : k < n
      · go_wp2_with (go_at_call 27; refine (bit_any _ _ _ (by omega) (by omega)).mono ?_; rintro e w' ⟨rfl, rfl⟩)
        go_round
        case rel => exact ⟨k + 1, by omega, by go_num, by rw [cutAcc_in x n true k ha]⟩
        case measure => simp [intOf]; omega
      · go_wp2_with (go_at_call 27; refine (bit_any _ _ _ (by omega) (by omega)).mono ?_; rintro e w' ⟨rfl, rfl⟩)
        go_round
        case rel => exact ⟨k + 1, by omega, by go_num, by rw [cutAcc_s x n k ha]⟩
        case measure => simp [intOf]; omega
    · obtain rfl : k = 64 := by omega
      go_wp2
      go_ret2
      exact ⟨ret_ub (by rw [cutAcc, cut_acc_s x n h0 h3]), rfl⟩
set_option maxHeartbeats 800000 in
theorem cut_u (x : BitVec 64) (n : Nat) (w : World) (h0 : 1 ≤ n) (h3 : n ≤ 64) :
    Calls Try.prog 15 #[.int .u64 (u x), .int .i64 (n : Int), .bool false] w fun e w' => e = .returned (.tuple #[.int .u64 (u (unsW x n)), .bool true]) ∧ w = w' := by
  go_enter Try.func15, Try.ntmps15
  go_wp2
  go_loop [8, 9] (fun o i => ∃ k : Nat, k ≤ 64 ∧ i = .int .i64 k ∧ o = .int .u64 (u (cutAcc x n false k))) (fun _ i => 64 - (intOf i).toNat)
  case atStart => exact ⟨0, by omega, rfl, rfl⟩
  case round =>
    obtain ⟨k, hk, rfl, rfl⟩ := hrel
    by_cases hlt : k < 64
    · by_cases ha : k < n
      · go_wp2_with (go_at_call 27; refine (bit_any _ _ _ (by omega) (by omega)).mono ?_; rintro e w' ⟨rfl, rfl⟩)
        go_round
        case rel => exact ⟨k + 1, by omega, by go_num, by rw [cutAcc_in x n false k ha]⟩
        case measure => simp [intOf]; omega
      · go_wp2
        go_round
        case rel => exact ⟨k + 1, by omega, by go_num, by rw [or_zero_u, cutAcc_u x n k ha]⟩
        case measure => simp [intOf]; omega
    · obtain rfl : k = 64 := by omega
      go_wp2
      go_ret2
      exact ⟨ret_ub (by rw [cutAcc, cut_acc_u x n h3]), rfl⟩

end Go.Proofs.Ytlkphjbnjeelaaa
