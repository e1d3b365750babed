/-
  Words and their numbers, there and back: the walk of a statement.
-/
import Derived.Test.YtaelfgdiboekpaaDoorNsAlive
namespace Go.Proofs.YtaelfgdiboekpaaDoor.Ns
set_option maxRecDepth 100000
open Go.RowKit
open Ce (u ldW Mem)
open Bi (Blk Drawn hasB hasB_iff hasB_not up_alloc up_drew up_trans i64_in ret_i ret_b grown_refl grown_trans grown_below)

/-- The document's word. -/
theorem rword_no (s n c : Int) (w : World) (h : okW s n c = false) : Calls Tryd.prog 11 #[.int .i64 s, .int .i64 n, .int .i64 c] w fun e w' => e = .returned (.tuple #[.int .u64 0, .bool false]) ∧ w = w' := by
  have hn : ¬ (0 ≤ s ∧ s < 128 ∧ -1 ≤ n ∧ n < 128 ∧ 0 ≤ c ∧ c < 12) := by intro e; rw [okW_iff.2 e] at h; cases h
  clear h
  by_cases h0 : s < 0
  · have d0 : decide (s < 0) = true := by simpa using h0
    clear hn
    go_enter Tryd.func11, Tryd.ntmps11
    go_wp2
    go_ret2
    exact ⟨rfl, rfl⟩
  · have d0 : decide (s < 0) = false := by simpa using h0
    by_cases h1 : 127 < s
    · have d1 : decide (127 < s) = true := by simpa using h1
      clear hn
      go_enter Tryd.func11, Tryd.ntmps11
      go_wp2
      go_ret2
      exact ⟨rfl, rfl⟩
    · have d1 : decide (127 < s) = false := by simpa using h1
      by_cases h2 : n < -1
      · have d2 : decide (n < -1) = true := by simpa using h2
        clear hn
        go_enter Tryd.func11, Tryd.ntmps11
        go_wp2
        go_ret2
        exact ⟨rfl, rfl⟩
      · have d2 : decide (n < -1) = false := by simpa using h2
        by_cases h3 : 127 < n
        · have d3 : decide (127 < n) = true := by simpa using h3
          clear hn
          go_enter Tryd.func11, Tryd.ntmps11
          go_wp2
          go_ret2
          exact ⟨rfl, rfl⟩
        · have d3 : decide (127 < n) = false := by simpa using h3
          by_cases h4 : c < 0
          · have d4 : decide (c < 0) = true := by simpa using h4
            clear hn
            go_enter Tryd.func11, Tryd.ntmps11
            go_wp2
            go_ret2
            exact ⟨rfl, rfl⟩
          · have d4 : decide (c < 0) = false := by simpa using h4
            have d5 : decide (11 < c) = true := by simp; omega
            clear hn
            go_enter Tryd.func11, Tryd.ntmps11
            go_wp2
            go_ret2
            exact ⟨rfl, rfl⟩
theorem rword_raw {s n c : Nat} (hs : s < 128) (hn : n ≤ 128) (hc : c < 12) : (n : Int) + 256 * (s : Int) + 65536 * (c : Int) + 7382074224233414656 = u (wd s n c) := by
  unfold Ce.u
  rw [wd_nat (by omega) (by omega) (by omega)]
  unfold MK; omega
theorem rword_yes (s n c : Nat) (w : World) (hs : s < 128) (hn : n ≤ 128) (hc : c < 12) : Calls Tryd.prog 11 #[.int .i64 (s : Int), .int .i64 ((n : Int) - 1), .int .i64 (c : Int)] w fun e w' => e = .returned (.tuple #[.int .u64 (u (wd s n c)), .bool true]) ∧ w = w' := by
  have HR := Lib.hid (rword_raw hs hn hc)
  have d0 : decide ((s : Int) < 0) = false := decide_eq_false (by omega)
  have d1 : decide (127 < (s : Int)) = false := by simp; omega
  have d2 : decide ((n : Int) - 1 < -1) = false := by simp; omega
  have d3 : decide (127 < (n : Int) - 1) = false := by simp; omega
  have d4 : decide ((c : Int) < 0) = false := decide_eq_false (by omega)
  have d5 : decide (11 < (c : Int)) = false := by simp; omega
  have w1 : IntKind.i64.wrap ((n : Int) - 1 + 1) = (n : Int) := by rw [IntKind.wrap_i64]; omega
  obtain ⟨N, hN⟩ : ∃ N, (n : Int) - 1 = N := ⟨_, rfl⟩
  have w2 : IntKind.u64.wrap (n : Int) = (n : Int) := by rw [IntKind.wrap_u64]; omega
  have w3 : IntKind.u64.wrap (s : Int) = (s : Int) := by rw [IntKind.wrap_u64]; omega
  have w4 : IntKind.u64.wrap (c : Int) = (c : Int) := by rw [IntKind.wrap_u64]; omega
  have w5 : IntKind.u64.wrap (256 * (s : Int)) = 256 * (s : Int) := by rw [IntKind.wrap_u64]; omega
  have w6 : IntKind.u64.wrap (65536 * (c : Int)) = 65536 * (c : Int) := by rw [IntKind.wrap_u64]; omega
  have w7 : IntKind.u64.wrap ((n : Int) + 256 * (s : Int)) = (n : Int) + 256 * (s : Int) := by rw [IntKind.wrap_u64]; omega
  have w8 : IntKind.u64.wrap ((n : Int) + 256 * (s : Int) + 65536 * (c : Int)) = (n : Int) + 256 * (s : Int) + 65536 * (c : Int) := by rw [IntKind.wrap_u64]; omega
  have w9 : IntKind.u64.wrap ((n : Int) + 256 * (s : Int) + 65536 * (c : Int) + 7382074224233414656) = (n : Int) + 256 * (s : Int) + 65536 * (c : Int) + 7382074224233414656 := by rw [IntKind.wrap_u64]; omega
  rw [hN] at d2 d3 w1 ⊢
  clear hN
  go_enter Tryd.func11, Tryd.ntmps11
  go_wp2
  go_ret2
  exact ⟨by rw [← HR.out]; rfl, rfl⟩
/-- What both answer. -/
def wdV (s n c : Int) : Value := if okW s n c = true then .tuple #[.int .u64 (u (wd s.toNat (n + 1).toNat c.toNat)), .bool true] else .tuple #[.int .u64 0, .bool false]
theorem ok_nat {s n c : Int} (h : okW s n c = true) : ∃ a b d : Nat, s = a ∧ n = (b : Int) - 1 ∧ c = d ∧ a < 128 ∧ b ≤ 128 ∧ d < 12 := by
  obtain ⟨h0, h1, h2, h3, h4, h5⟩ := okW_iff.1 h
  exact ⟨s.toNat, (n + 1).toNat, c.toNat, by omega, by omega, by omega, by omega, by omega, by omega⟩
theorem word_any (s n c : Int) (w : World) (hT : Tb.Tab w) : Calls Tryd.prog 10 #[.int .i64 s, .int .i64 n, .int .i64 c] w fun e w' => e = .returned (wdV s n c) ∧ Below w.heap.size w w' := by
  unfold wdV
  cases h : okW s n c with
  | false => exact (word_no s n c w hT h).mono fun _ _ ⟨he, hw⟩ => ⟨by rw [he]; rfl, hw ▸ Below.refl _ _⟩
  | true =>
    obtain ⟨a, b, d, rfl, rfl, rfl, h1, h2, h3⟩ := ok_nat h
    refine (word_yes a b d w hT h1 h2 h3).mono fun _ _ ⟨he, hw⟩ => ⟨?_, hw⟩
    rw [he, if_pos rfl, show ((a : Int)).toNat = a from rfl, show ((d : Int)).toNat = d from rfl, show ((b : Int) - 1 + 1).toNat = b by omega]
theorem rword_any (s n c : Int) (w : World) : Calls Tryd.prog 11 #[.int .i64 s, .int .i64 n, .int .i64 c] w fun e w' => e = .returned (wdV s n c) ∧ w = w' := by
  unfold wdV
  cases h : okW s n c with
  | false => exact (rword_no s n c w h).mono fun _ _ ⟨he, hw⟩ => ⟨by rw [he]; rfl, hw⟩
  | true =>
    obtain ⟨a, b, d, rfl, rfl, rfl, h1, h2, h3⟩ := ok_nat h
    refine (rword_yes a b d w h1 h2 h3).mono fun _ _ ⟨he, hw⟩ => ⟨?_, hw⟩
    rw [he, if_pos rfl, show ((a : Int)).toNat = a from rfl, show ((d : Int)).toNat = d from rfl, show ((b : Int) - 1 + 1).toNat = b by omega]
/-- Bits of a word as numbers. -/
theorem and255 (x : BitVec 64) : bits .and .u64 (u x) 255 = ((x.toNat % 256 : Nat) : Int) := by
  have e : (255 : Int) = Ce.u 255#64 := rfl
  rw [e, Ce.and_u]
  unfold Ce.u
  rw [BitVec.toNat_and, show (255#64).toNat = 2 ^ 8 - 1 from rfl, Nat.and_two_pow_sub_one_eq_mod]
end Go.Proofs.YtaelfgdiboekpaaDoor.Ns
